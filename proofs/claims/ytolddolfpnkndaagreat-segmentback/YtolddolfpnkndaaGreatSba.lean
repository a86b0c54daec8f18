/-
  SegmentBack's walk: whatever is put is read at the place that was told; the segments have these records' frames, in their order, and not a byte of junk.
-/
import Derived.Test.YtolddolfpnkndaaGreatXsbo
import Derived.Test.YtolddolfpnkndaaGreatXsbx
import Derived.Test.YtolddolfpnkndaaGreatXsby
import Derived.Test.YtolddolfpnkndaaGreatXsbz
import Derived.Test.YtolddolfpnkndaaGreatXsbt
import Derived.Test.YtolddolfpnkndaaGreatXsbu
import Derived.Test.YtolddolfpnkndaaGreatXsap
import Derived.Test.YtolddolfpnkndaaGreatXsca
import Derived.Deep.MidRow
namespace Go.Proofs.YtolddolfpnkndaaGreat
open Go.RowKit Go.Maps Go.Sort Go.ChangeShapes Go.WideShapes Go.ChangeAt Go.Shelf
namespace Sg
open Vt Dk
def frsR : Rec := ⟨1, 1, ⟨#[102, 105, 114, 115, 116]⟩, ⟨#[]⟩⟩
/-- the records of the law: the first one, then the lines' -/
def bkR (ls : List Ln) (i : Nat) : Rec := if i = 0 then frsR else lnR (ls.getD (i - 1) zl) (i - 1)
def bkS (ls : List Ln) (i : Nat) : Bool := if i = 0 then false else (ls.getD (i - 1) zl).syn
def bkX (i : Nat) : Nat := if i = 0 then 1 else 0
theorem bk_ok (ls : List Ln) : Rok (bkR ls) 61 := by
  have hwf : (ofR frsR).Wf := ⟨(by decide : (1 : Nat) < 18446744073709551616), (by decide : (0 : Nat) < 18446744073709551616), (by decide : (0 : Nat) < 4294967296)⟩
  have hrf : rf (ofR frsR) = 0 := by
    have e : rf (ofR frsR) = rfR (ofR frsR) := by unfold rf; rw [if_pos (show (ofR frsR).kind = 1 ∨ (ofR frsR).kind = 2 from Or.inl rfl)]
    rw [e]
    unfold rfR
    rw [if_neg (show ¬ ((ofR frsR).r.kind ≠ (ofR frsR).kind) from fun q => q rfl), if_neg (show ¬ ((ofR frsR).r.lsn = 0) from by decide), if_neg (show ¬ ¬ mayKey (ofR frsR).r.key from fun q => q ⟨(by decide : 1 ≤ 5), (by decide : 5 ≤ 64)⟩), if_neg (show ¬ ((if (ofR frsR).r.kind = 2 then 0 else 2048) < (ofR frsR).r.val.size) from by show ¬ ((if (1 : Int) = 2 then 0 else 2048) < 0); decide), if_neg (show ¬ (ofR frsR ≠ ofR (ofR frsR).r) from fun q => q rfl)]
  refine ⟨fun i hi => ?_, fun i hi => ?_, fun i hi => ?_, fun i hi => ?_, by omega⟩
  · unfold bkR; split
    · exact hrf
    · exact lnR_rf _ _
  · unfold bkR; split
    · exact hwf
    · exact lnR_wf _ _ (by omega)
  · unfold bkR; split
    · exact en_len_le hwf hrf
    · exact Nat.le_trans (lnR_len _ _ (by omega)) (by omega)
  · unfold bkR; split
    · exact .inl rfl
    · unfold lnR; cases (ls.getD (i - 1) zl).gone <;> simp
theorem bkX_le (i : Nat) : bkX i ≤ 1 := by unfold bkX; split <;> omega
theorem tick_nf {S : Ds} (h : Nf S) : tick S = { S with acts := S.acts + 1 } := by
  obtain ⟨h1, h2, h3⟩ := h
  cases S
  simp only at h1 h2 h3
  subst h2 h3
  rfl
/-- a disk that is only read -/
def Rq (O : Nat → Prop) (d : Nat) (w0 : World) (S0 : Ds) (k : Nat) (wq : World) : Prop := ∃ S, DK wq d O S ∧ S.fs = S0.fs ∧ Nf S ∧ S.acts = S0.acts + k ∧ Tr O w0 wq
theorem take_le {K : Nat} {segs : List (List Nat)} (h : segs.flatten = List.range K) (j : Nat) : (segs.take j).flatten.length ≤ K := by
  have h1 : (segs.take j ++ segs.drop j).flatten.length = K := by rw [List.take_append_drop, h, List.length_range]
  rw [List.flatten_append, List.length_append] at h1
  omega
theorem bfls_below {w w' : World} {lo : Nat} {v : Value} {l : List (ByteArray × List Nat)} (h : FLs w lo v l) (hb : Below w.heap.size w w') : FLs w' lo v l := h.same fun g _ h2 => hb.block g h2
set_option pp.maxSteps 1000000 in
set_option maxRecDepth 100000 in
set_option maxHeartbeats 40000000 in
theorem back_walk (lim evy : Int) (v : Value) (ls : List Ln) (w : World) (h1 : -9223372036854775808 ≤ lim) (h2 : lim ≤ 9223372036854775807) (h3 : -9223372036854775808 ≤ evy) (h4 : evy ≤ 9223372036854775807) (hL : IsL w.heap.size w v ls) :
    Calls Tryz.prog 4 #[.int .i64 lim, .int .i64 evy, v] w fun e w' => e = .returned (.bool true) ∧ Below w.heap.size w w' := by
  obtain ⟨a, c, rfl⟩ := hL.shape
  have hmx : Tryz.prog.follows .mixedOrders = true := by kernel_rfl
  have hBm : ls.length ≤ 140737488355328 := hL.2.1
  have HFR := hd (fresh_is lim evy w h1 h2 h3 h4)
  have HL := hd hL
  clear hL
  obtain ⟨X, hX⟩ : ∃ X, X = (w0S lim evy, ds0 1000000) := ⟨_, rfl⟩
  have hg0 : Gk 1000000 (64 + pk lim 400) (pk evy 6) 0 X := by rw [hX]; exact gk0 1000000 _ _ (by omega)
  have HOK : Hid (∀ k, k ≤ 61 → Gk 1000000 (64 + pk lim 400) (pk evy 6) k (gsat (bkR ls) (bkS ls) bkX X k)) := gsat_ok (bk_ok ls) bkX_le (by omega) hg0
  have HGX : Hid (∀ k, k ≤ 61 → ∃ segs, Gx (bkR ls) (bkS ls) bkX X k segs) := gx_all (bk_ok ls) bkX_le (by omega) hg0
  have HX := hd hX
  clear hX h1 h2 h3 h4
  go_enter Tryz.func4, Tryz.ntmps4
  go_wp2_with fail
  refine Calls.mono HFR.out ?_
  rintro e w1 ⟨d, b, O, rfl, hwk, hb1, hbb, hO⟩
  have HQ0 : Hid (Gq (bkR ls) (bkS ls) bkX 0 w.heap.size w b d X 0 (.slice none 0 0) w1) := ⟨⟨O, by show WK w1 b d O X.1 X.2; rw [HX.out]; exact hwk, hO, fun g hg => by cases hg⟩, jr_nil w1 _, hb1, hbb⟩
  have HB1 := hd hb1
  have hs1 := hb1.size
  clear hwk hO hb1 HFR hg0
  go_wp2_with fail
  have hpu := HQ0.out.put (bk_ok ls) bkX_le (by omega) (HOK.out 0 (by omega)) (by omega) hs1
  obtain ⟨⟨p1, p2, p3⟩, hp⟩ : ∃ p, gplc (bkR ls) (0 + 0) (gsat (bkR ls) (bkS ls) bkX X (0 + 0)) = p := ⟨_, rfl⟩
  rw [hp] at hpu
  have HP := hd hp
  clear hp
  refine Calls.mono hpu ?_
  clear hpu
  rintro e w2 ⟨rfl, ⟨O2, hw2, hO2, _⟩, _, hb2, hs2⟩
  have HW2 := hd hw2
  have HO2 := hd hO2
  have HB2 := hd hb2
  clear hw2 hO2 hb2 HQ0
  go_wp2_with fail
  obtain ⟨w3, hw3⟩ : ∃ w3, w3 = w2.alloc (.cells #[.int .u32 (p1 : Int), .int .i64 (p2 : Int), .int .i64 (p3 : Int)] TPl) := ⟨_, rfl⟩
  have hb3 : Below w2.heap.size w2 w3 := by rw [hw3]; exact (Below.refl _ _).alloc (Nat.le_refl _) _
  have HPB := hd (Blk.new w2 TPl [.int .u32 (p1 : Int), .int .i64 (p2 : Int), .int .i64 (p3 : Int)])
  obtain ⟨S2, hS2⟩ : ∃ S2, S2 = (pt X.1 X.2 (gB (bkR ls) 0)).2.2 := ⟨_, rfl⟩
  have e1 : gsat (bkR ls) (bkS ls) bkX X 1 = ((pt X.1 X.2 (gB (bkR ls) 0)).2.1, { S2 with acts := S2.acts + 1 }) := by rw [hS2]; rfl
  have hiv1 : Nf (gsat (bkR ls) (bkS ls) bkX X 1).2 := by
    rcases (HOK.out 1 (by omega)).at_ with ⟨q, _⟩ | ⟨_, _, _, _, q, _⟩
    · omega
    · exact q.nf
  have hac1 := (HOK.out 1 (by omega)).acts
  have hnf2 : Nf S2 := by rw [e1] at hiv1; exact ⟨hiv1.down, hiv1.fail, hiv1.brk⟩
  obtain ⟨segs1, hgx1⟩ := HGX.out 1 (by omega)
  obtain ⟨g1, g2, g3, g4, g5⟩ := gread hgx1 (bk_ok ls) (by omega) (by omega) (i := 0) (by omega) S2 (by rw [e1]) hnf2 HP.out
  have hac2 : S2.acts ≤ 5 := by
    have : (gsat (bkR ls) (bkS ls) bkX X 1).2.acts = S2.acts + 1 := by rw [e1]
    omega
  have hdk2 : DK w2 d O2 S2 := by rw [hS2]; exact HW2.out.1
  have HOL := hd hdk2.olt
  have hdk3 : DK w3 d O2 S2 := hdk2.aside (Tr.ofB hb3 (fun _ => False)) (fun _ _ q => q)
  have hrd := read_nx w3 d O2 S2 p1 (p2 : Int) (p3 : Int) g3 (by omega) (by omega) hdk3 (by omega) g1
  rw [g5, g2, tick_nf hnf2] at hrd
  simp only [show rdT (bkR ls 0) 0 = .tuple #[.agg #[.int .u64 1, .int .i64 1, .string ⟨#[102, 105, 114, 115, 116]⟩, .string ⟨#[]⟩], .int .i64 0] from rfl] at hrd
  have HRD := hd hrd
  have HE1 := hd e1
  rw [← hw3]
  rw [← hw3] at HPB
  have hbl3 : Blk w3 b TW (wcs d (gsat (bkR ls) (bkS ls) bkX X 1).1) := by rw [e1]; exact HW2.out.2.1.keep hb3
  have HBL3 := hd hbl3
  have HNB : Hid (¬ O2 b) := HW2.out.2.2
  have HB3 : Hid (Below w.heap.size w w3) := HB2.out.trans (hb3.mono hs2)
  have hs3 := hb3.size
  have hs23 : w3.heap.size = w2.heap.size + 1 := by rw [hw3, alloc_size]
  clear hrd e1 hiv1 hnf2 hgx1 g1 g2 g5 hdk2 hdk3 hbl3 hw3 hb3 hS2 HB2 HW2
  refine Calls.mono HRD.out ?_
  rintro e w4 ⟨rfl, hd4, ht4⟩
  have hw4 : WK w4 b d O2 (gsat (bkR ls) (bkS ls) bkX X 1).1 (gsat (bkR ls) (bkS ls) bkX X 1).2 := by
    refine ⟨by rw [HE1.out]; exact hd4, (ht4.block b HBL3.out.lt HNB.out).trans HBL3.out, HNB.out⟩
  have HW4 := hd hw4
  have HB4 : Hid (Below w.heap.size w w4) := HB3.out.trans (ht4.below HO2.out (by omega))
  have hs4 := ht4.size
  have HPB4 : Hid (Blk w4 w2.heap.size TPl [.int .u32 (p1 : Int), .int .i64 (p2 : Int), .int .i64 (p3 : Int)]) := (ht4.block _ (by omega) (fun q => by have := HOL.out _ q; omega)).trans HPB.out
  clear hd4 ht4 hw4 HRD HBL3 HE1 HB3 HPB
  go_wp2_with fail
  obtain ⟨w5, hw5⟩ : ∃ w5, w5 = w4.alloc (.cells #[.int .u64 1, .int .i64 1, .string ⟨#[102, 105, 114, 115, 116]⟩, .string ⟨#[]⟩] 38) := ⟨_, rfl⟩
  have hb5 : Below w4.heap.size w4 w5 := by rw [hw5]; exact (Below.refl _ _).alloc (Nat.le_refl _) _
  have HB5 : Hid (Below w.heap.size w w5) := HB4.out.trans (hb5.mono (by omega))
  have hs5 := hb5.size
  have HWR := hd (gwritten_is (bkR ls) (bkS ls) bkX 61 1 1000000 (64 + pk lim 400) (pk evy 6) X (bk_ok ls) bkX_le (by omega) HOK.out w.heap.size w5 b d O2 (.slice a ls.length c) ls (by omega) (fun k hk hl => ⟨by unfold bkR; rw [if_neg (by omega), show 1 + k - 1 = k by omega], by unfold bkS; rw [if_neg (by omega), show 1 + k - 1 = k by omega], by unfold bkX; rw [if_neg (by omega)]⟩) (HW4.out.below hb5) HO2.out hbb (by omega) (HL.out.below HB5.out))
  rw [← hw5]
  clear hw5 hb5 HW4 HPB4
  refine Calls.mono HWR.out ?_
  rintro e w6 ⟨u, rfl, hW⟩
  obtain ⟨n, hn⟩ : ∃ n, n = min ls.length 60 := ⟨_, rfl⟩
  rw [← hn] at hW
  have hnl : n ≤ ls.length ∧ n ≤ 60 := by omega
  obtain ⟨ua, uc, hu, huc⟩ := hW.row.shape
  rw [List.length_map, gpls_len] at hu huc
  subst hu
  have HROW := hd hW.row
  obtain ⟨O6, hk6, ho6, hg6⟩ := hW.own
  have HK6 := hd hk6
  have HO6 := hd ho6
  have HG6 := hd hg6
  have HB6 : Hid (Below w.heap.size w w6) := HB5.out.trans hW.bel
  have hs6 := hW.bel.size
  have hucm : uc ≤ maxLen := by
    obtain ⟨_, _, ⟨e, _⟩ | ⟨_, _, _, e, _, _, _, hm, _⟩⟩ := hW.row
    · injection e with _ _ e; rw [e]; exact Nat.zero_le _
    · injection e with _ _ e; rw [e]; exact hm
  clear hW hn HWR hk6 ho6 hg6 HB5 HB4
  go_wp2_with fail
  obtain ⟨S6, hS6⟩ : ∃ S6, S6 = (gsat (bkR ls) (bkS ls) bkX X (1 + n)).2 := ⟨_, rfl⟩
  obtain ⟨segs, hgx⟩ := HGX.out (1 + n) (by omega)
  have hac6 := (HOK.out (1 + n) (by omega)).acts
  have hnf6 : Nf S6 := by
    rw [hS6]
    rcases (HOK.out (1 + n) (by omega)).at_ with ⟨q, _⟩ | ⟨_, _, _, _, q, _⟩
    · omega
    · exact q.nf
  have hdk6 := HK6.out.1
  rw [← hS6] at hdk6 hac6
  have HR0 : Hid (Rq O6 d w6 S6 0 w6) := ⟨S6, hdk6, rfl, hnf6, rfl, Tr.refl _ _⟩
  have HGN := hd hgx
  have HS6 := hd hS6
  have HOL6 := hd hdk6.olt
  have hacb : S6.acts ≤ 400 := by omega
  clear hdk6 hnf6 hac6 hgx hS6
  go_loopw [15] (fun x wq => ∃ k : Nat, k ≤ n ∧ x = .int .i64 (k : Int) ∧ Rq O6 d w6 S6 k wq) (fun x _ => n - (intOf x).toNat)
  case atStart => exact ⟨0, by omega, rfl, HR0.out⟩
  case round =>
    obtain ⟨k, hk, rfl, S, hdS, hfS, hnS, haS, htS⟩ := hrel
    obtain ⟨wq, hwq⟩ : ∃ wq, wq = wr := ⟨_, rfl⟩
    subst hwq
    have HTS := hd htS
    have HBQ : Hid (Below w.heap.size w wq) := HB6.out.trans (htS.below HO6.out (by omega))
    have HDS := hd hdS
    have HFS := hd hfS
    have HNS := hd hnS
    have HAS := hd haS
    have hsq := htS.size
    clear hdS hfS hnS haS htS
    by_cases hlt : k < n
    · have hki : ((k : Nat) : Int) < (n : Int) := by omega
      have HLT : Hid (k + 1 ≤ n) := hlt
      obtain ⟨lb, off, l, rfl, hlk, hgd, hks, hvs, d0, d1, d2, d3⟩ := (HL.out.below HBQ.out).at (by omega : k < ls.length)
      have hrow := jr_same HROW.out fun y hy => HTS.out.block y (HROW.out.blk_lt y hy) (fun q => (HG6.out y hy).1 q)
      have hpk := gpls_at (bkR ls) (bkS ls) bkX X 1 hlt
      obtain ⟨q1, q2, q3, hq⟩ : ∃ q1 q2 q3, gplc (bkR ls) (1 + k) (gsat (bkR ls) (bkS ls) bkX X (1 + k)) = (q1, q2, q3) := ⟨_, _, _, rfl⟩
      rw [hq] at hpk
      obtain ⟨g, c2, he, _, _⟩ := hrow.nn (by intro e; have := congrArg List.length e; rw [List.length_map, gpls_len] at this; simp at this; omega)
      injection he with he1 he2 he3
      subst he1
      have m0 : wq.cell? ⟨g, k * 3, none⟩ = some (.int .u32 (q1 : Int)) := hrow.at k _ 0 _ (by rw [List.getElem?_map, hpk]; rfl) rfl
      have m1 : wq.cell? ⟨g, k * 3 + 1, none⟩ = some (.int .i64 (q2 : Int)) := hrow.at k _ 1 _ (by rw [List.getElem?_map, hpk]; rfl) rfl
      have m2 : wq.cell? ⟨g, k * 3 + 2, none⟩ = some (.int .i64 (q3 : Int)) := hrow.at k _ 2 _ (by rw [List.getElem?_map, hpk]; rfl) rfl
      have hcs : (gsat (bkR ls) (bkS ls) bkX X (1 + n)).2.acts ≤ 1000 := by rw [← HS6.out]; omega
      obtain ⟨g1, g2, g3, g4, g5⟩ := gread HGN.out (bk_ok ls) (by omega) hcs (i := 1 + k) (by omega) S (by rw [HFS.out, HS6.out]) HNS.out hq
      have hrd := read_nx wq d O6 S q1 (q2 : Int) (q3 : Int) g3 (by omega) (by omega) HDS.out (by have := HAS.out; omega) g1
      have hbr : bkR ls (1 + k) = lnR l k := by unfold bkR; rw [if_neg (by omega), show 1 + k - 1 = k by omega, hgd]
      rw [g5, g2, hbr] at hrd
      have HNT : Hid (Nf (tick S) ∧ (tick S).fs = S.fs ∧ (tick S).acts = S.acts + 1) := ⟨HNS.out.tick, rfl, rfl⟩
      have HRD := hd hrd
      have HGD := hd hgd
      clear hrd hbr g1 g2 g3 g4 g5 hcs hpk hq hrow he2 he3 hgd hlk hk
      go_wp2_with fail
      have HREC := hd (record_is l k · hks hvs (by omega))
      obtain ⟨⟨rl, rk, rkey, rval⟩, hr⟩ : ∃ r, lnR l k = r := ⟨_, rfl⟩
      rw [hr] at HRD
      simp only [hr] at HREC
      simp only [show rdT (⟨rl, rk, rkey, rval⟩ : Rec) 0 = .tuple #[.agg #[.int .u64 (rl : Int), .int .i64 rk, .string rkey, .string rval], .int .i64 0] from rfl] at HRD
      simp only [show rv (⟨rl, rk, rkey, rval⟩ : Rec) = #[.int .u64 (rl : Int), .int .i64 rk, .string rkey, .string rval] from rfl] at HREC
      clear hr
      refine Calls.mono HRD.out ?_
      rintro e w7 ⟨rfl, hd7, ht7⟩
      have HD7 := hd hd7
      have HT7 : Hid (Tr O6 w6 w7) := HTS.out.trans ht7 fun x q => .inl q
      have hsz7 := ht7.size
      clear hd7 ht7 HRD d0 d1 d2 d3 m0 m1 m2
      obtain ⟨_, _, l2, e0, _, e2, _, _, d0, d1, d2, d3⟩ := (HL.out.below (HB6.out.trans (HT7.out.below HO6.out (by omega)))).at (by omega : k < ls.length)
      injection e0 with e0
      injection e0 with e0 e1
      subst e0 e1
      have e3 : l = l2 := HGD.out.symm.trans e2
      subst e3
      clear e2
      go_wp2_with fail
      obtain ⟨WX, hWX⟩ : ∃ WX, WX = w7.alloc (.cells #[.int .u64 (rl : Int), .int .i64 rk, .string rkey, .string rval] 38) := ⟨_, rfl⟩
      have hbX : Below w7.heap.size w7 WX := by rw [hWX]; exact (Below.refl _ _).alloc (Nat.le_refl _) _
      have hrX : Blk WX w7.heap.size 38 [.int .u64 (rl : Int), .int .i64 rk, .string rkey, .string rval] := by rw [hWX]; exact Blk.new w7 _ [.int .u64 (rl : Int), .int .i64 rk, .string rkey, .string rval]
      rw [← hWX]
      have hlbw : lb < w7.heap.size := lt_of_cell d0
      have HXB := hd hbX
      have hr0 : ∀ w', Below WX.heap.size WX w' → w'.rangeAt w7.heap.size 0 [.int .u64 (rl : Int), .int .i64 rk, .string rkey, .string rval] := fun w' hb j u hu => by rw [Nat.zero_add, hb.cell hrX.lt]; exact hrX.cell j u hu
      have hl0 : ∀ w', Below WX.heap.size WX w' → w'.rangeAt lb (off + k * 4) [.string l.key, .string l.val, .bool l.gone, .bool l.syn] := by
        intro w' hb j u hu
        have hb' : Below w7.heap.size w7 w' := hbX.trans (hb.mono hbX.size)
        rw [hb'.cell (p := ⟨lb, off + k * 4 + j, none⟩) hlbw]
        match j, hu with
        | 0, hu => injection hu with hu; rw [← hu]; exact d0
        | 1, hu => injection hu with hu; rw [← hu]; exact d1
        | 2, hu => injection hu with hu; rw [← hu]; exact d2
        | 3, hu => injection hu with hu; rw [← hu]; exact d3
        | j + 4, hu => simp at hu
      have hne : ∀ ww, (binOp .neq 38 (.agg #[.int .u64 (rl : Int), .int .i64 rk, .string rkey, .string rval]) (.agg #[.int .u64 (rl : Int), .int .i64 rk, .string rkey, .string rval])).run Tryz.prog ww = .ok (.bool false) ww := fun ww => by simp [go_sem, Op.eqFields]
      have HREC := hd HREC.out
      have hkl : k < ls.length := by omega
      clear hWX hbX hrX d0 d1 d2 d3
      refine region_skip (fun i9 v9 _ => match i9 with
          | 0 => v9 = Value.int IntKind.i64 0
          | 1 => v9 = .bool false
          | 2 => v9 = .bool false
          | 3 => v9 = .agg #[.int .u64 (rl : Int), .int .i64 rk, .string rkey, .string rval]
          | 4 => v9 = Value.slice (some { block := lb, off := off }) ls.length c
          | 5 => v9 = Value.int IntKind.i64 ((k : Nat) : Int)
          | 6 => v9 = .pointer (some ⟨lb, off + k * 4, none⟩)
          | 7 => v9 = .agg #[.string l.key, .string l.val, .bool l.gone, .bool l.syn]
          | 8 => v9 = Value.int IntKind.i64 ((k : Nat) : Int)
          | 9 => v9 = .agg #[.int .u64 (rl : Int), .int .i64 rk, .string rkey, .string rval]
          | 10 => v9 = .bool false
          | _ => v9 = .bool false) (fun w => Below WX.heap.size WX w) hmx (by kernel_rfl) (by kernel_rfl) ((Below.refl _ _).drew) ?_ ?_ ?_
      · as_aux_lemma =>
          intro i9 v9 w8 w9 _ _ hb hG
          match i9, hG with
          | 0, h => exact h
          | 1, h => exact h
          | 2, h => exact h
          | 3, h => exact h
          | 4, h => exact h
          | 5, h => exact h
          | 6, h => exact h
          | 7, h => exact h
          | 8, h => exact h
          | 9, h => exact h
          | 10, h => exact h
          | n + 11, h => exact h
      · as_aux_lemma =>
          intro i9 o9 ho a9 w9 hW hdf hsz hout haf
          have ee2 := getq (show a9.tmps.getD 2 undef = Value.slice (some { block := lb, off := off }) ls.length c from hout 2 (notDst_spec (by kernel_rfl)))
          have ee15 := getq (show a9.tmps.getD 15 undef = Value.int IntKind.i64 ((k : Nat) : Int) from hout 15 (notDst_spec (by kernel_rfl)))
          have ee16 := getq (show a9.tmps.getD 16 undef = Value.pointer (some { block := w7.heap.size, off := 0 }) from hout 16 (notDst_spec (by kernel_rfl)))
          have ee17 := getq (show a9.tmps.getD 17 undef = Value.int IntKind.i64 0 from hout 17 (notDst_spec (by kernel_rfl)))
          have h16 : a9.tmps.getD 16 undef = .pointer (some ⟨w7.heap.size, 0, none⟩) := hout 16 (notDst_spec (by kernel_rfl))
          have hsz2 : a9.tmps.size = 180 := hsz
          clear hout hsz hdf
          match i9, ho, haf with
          | 0, ho, haf =>
            obtain rfl := Option.some.inj ho
            refine skip_good _ (wanted_none rfl) ?_
            clear haf ho hsz2
            intro K hK
            simp only [List.getElem_toArray, List.getElem_cons_zero] at hK ⊢
            go_simp
            exact hK _ _ ⟨Below.refl _ _, hW, rfl⟩
          | 1, ho, haf =>
            obtain rfl := Option.some.inj ho
            have f0 := getq (show a9.tmps.getD 79 undef = Value.int IntKind.i64 0 from haf ⟨0, .data⟩ (by simp) rfl)
            refine skip_good _ (wanted_none rfl) ?_
            clear haf ho hsz2
            intro K hK
            simp only [List.getElem_toArray, List.getElem_cons_succ, List.getElem_cons_zero] at hK ⊢
            go_simp
            exact hK _ _ ⟨Below.refl _ _, hW, rfl⟩
          | 2, ho, haf =>
            obtain rfl := Option.some.inj ho
            have f1 := getq (show a9.tmps.getD 80 undef = .bool false from haf ⟨1, .data⟩ (by simp) rfl)
            refine skip_good _ (wanted_none rfl) ?_
            clear haf ho hsz2
            intro K hK
            simp only [List.getElem_toArray, List.getElem_cons_succ, List.getElem_cons_zero] at hK ⊢
            go_simp
            exact hK _ _ ⟨Below.refl _ _, hW, rfl⟩
          | 3, ho, haf =>
            obtain rfl := Option.some.inj ho
            have gg : a9.tmps.getD 81 undef = .bool false := haf ⟨2, .guard⟩ (by simp) rfl
            refine skip_good _ (wanted_some rfl (yielded_of (d := 81) rfl (by omega) gg)) ?_
            have hx0 : a9.eval (Operand.tmp 16) = .pointer (some ⟨w7.heap.size, 0, none⟩) := h16
            clear haf ho hsz2 gg
            intro K hK
            simp only [List.getElem_toArray, List.getElem_cons_succ, List.getElem_cons_zero] at hK ⊢
            exact wp_load_mid 38 _ rfl w7.heap.size 0 hx0 [.int .u64 (rl : Int), .int .i64 rk, .string rkey, .string rval] _ (hr0 w9 hW) Tryz.underlying38 rfl (by kernel_rfl) (hK _ _ ⟨Below.refl _ _, hW, rfl⟩)
          | 4, ho, haf =>
            obtain rfl := Option.some.inj ho
            have gg : a9.tmps.getD 81 undef = .bool false := haf ⟨2, .guard⟩ (by simp) rfl
            refine skip_good _ (wanted_some rfl (yielded_of (d := 81) rfl (by omega) gg)) ?_
            clear haf ho hsz2 gg
            intro K hK
            simp only [List.getElem_toArray, List.getElem_cons_succ, List.getElem_cons_zero] at hK ⊢
            go_simp
            exact hK _ _ ⟨Below.refl _ _, hW, rfl⟩
          | 5, ho, haf =>
            obtain rfl := Option.some.inj ho
            have gg : a9.tmps.getD 81 undef = .bool false := haf ⟨2, .guard⟩ (by simp) rfl
            refine skip_good _ (wanted_some rfl (yielded_of (d := 81) rfl (by omega) gg)) ?_
            clear haf ho hsz2 gg
            intro K hK
            simp only [List.getElem_toArray, List.getElem_cons_succ, List.getElem_cons_zero] at hK ⊢
            go_simp
            exact hK _ _ ⟨Below.refl _ _, hW, rfl⟩
          | 6, ho, haf =>
            obtain rfl := Option.some.inj ho
            have gg : a9.tmps.getD 81 undef = .bool false := haf ⟨2, .guard⟩ (by simp) rfl
            have f4 := getq (show a9.tmps.getD 83 undef = Value.slice (some { block := lb, off := off }) ls.length c from haf ⟨4, .data⟩ (by simp) rfl)
            have f5 := getq (show a9.tmps.getD 84 undef = Value.int IntKind.i64 ((k : Nat) : Int) from haf ⟨5, .data⟩ (by simp) rfl)
            refine skip_good _ (wanted_some rfl (yielded_of (d := 81) rfl (by omega) gg)) ?_
            clear haf ho hsz2 gg
            intro K hK
            simp only [List.getElem_toArray, List.getElem_cons_succ, List.getElem_cons_zero] at hK ⊢
            go_simp
            exact hK _ _ ⟨Below.refl _ _, hW, rfl⟩
          | 7, ho, haf =>
            obtain rfl := Option.some.inj ho
            have gg : a9.tmps.getD 81 undef = .bool false := haf ⟨2, .guard⟩ (by simp) rfl
            have f6 := getq (show a9.tmps.getD 85 undef = .pointer (some ⟨lb, off + k * 4, none⟩) from haf ⟨6, .data⟩ (by simp) rfl)
            refine skip_good _ (wanted_some rfl (yielded_of (d := 81) rfl (by omega) gg)) ?_
            have hx0 : a9.eval (Operand.tmp 85) = .pointer (some ⟨lb, off + k * 4, none⟩) := haf ⟨6, .data⟩ (by simp) rfl
            clear haf ho hsz2 gg
            intro K hK
            simp only [List.getElem_toArray, List.getElem_cons_succ, List.getElem_cons_zero] at hK ⊢
            exact wp_load_mid 40 _ rfl lb (off + k * 4) hx0 [.string l.key, .string l.val, .bool l.gone, .bool l.syn] _ (hl0 w9 hW) Tryz.underlying40 rfl (by kernel_rfl) (hK _ _ ⟨Below.refl _ _, hW, rfl⟩)
          | 8, ho, haf =>
            obtain rfl := Option.some.inj ho
            have gg : a9.tmps.getD 81 undef = .bool false := haf ⟨2, .guard⟩ (by simp) rfl
            refine skip_good _ (wanted_some rfl (yielded_of (d := 81) rfl (by omega) gg)) ?_
            clear haf ho hsz2 gg
            intro K hK
            simp only [List.getElem_toArray, List.getElem_cons_succ, List.getElem_cons_zero] at hK ⊢
            go_simp
            exact hK _ _ ⟨Below.refl _ _, hW, rfl⟩
          | 9, ho, haf =>
            obtain rfl := Option.some.inj ho
            have gg : a9.tmps.getD 81 undef = .bool false := haf ⟨2, .guard⟩ (by simp) rfl
            have f7 := getq (show a9.tmps.getD 86 undef = .agg #[.string l.key, .string l.val, .bool l.gone, .bool l.syn] from haf ⟨7, .data⟩ (by simp) rfl)
            have f8 := getq (show a9.tmps.getD 87 undef = Value.int IntKind.i64 ((k : Nat) : Int) from haf ⟨8, .data⟩ (by simp) rfl)
            refine skip_good _ (wanted_some rfl (yielded_of (d := 81) rfl (by omega) gg)) ?_
            clear haf ho hsz2 gg
            intro K hK
            simp only [List.getElem_toArray, List.getElem_cons_succ, List.getElem_cons_zero] at hK ⊢
            go_simp
            refine Calls.mono (HREC.out w9) ?_
            rintro e9 w8 ⟨rfl, hb9⟩
            exact hK _ _ ⟨hb9, hW.trans (hb9.mono hW.size), rfl⟩
          | 10, ho, haf =>
            obtain rfl := Option.some.inj ho
            have gg : a9.tmps.getD 81 undef = .bool false := haf ⟨2, .guard⟩ (by simp) rfl
            have f3 := getq (show a9.tmps.getD 82 undef = .agg #[.int .u64 (rl : Int), .int .i64 rk, .string rkey, .string rval] from haf ⟨3, .data⟩ (by simp) rfl)
            have f9 := getq (show a9.tmps.getD 88 undef = .agg #[.int .u64 (rl : Int), .int .i64 rk, .string rkey, .string rval] from haf ⟨9, .data⟩ (by simp) rfl)
            refine skip_good _ (wanted_some rfl (yielded_of (d := 81) rfl (by omega) gg)) ?_
            clear haf ho hsz2 gg
            intro K hK
            simp only [List.getElem_toArray, List.getElem_cons_succ, List.getElem_cons_zero] at hK ⊢
            go_simp
            exact hK _ _ ⟨Below.refl _ _, hW, rfl⟩
          | 11, ho, haf =>
            obtain rfl := Option.some.inj ho
            have f2 := getq (show a9.tmps.getD 81 undef = .bool false from haf ⟨2, .data⟩ (by simp) rfl)
            have f10 := getq (show a9.tmps.getD 89 undef = .bool false from haf ⟨10, .data⟩ (by simp) rfl)
            refine skip_good _ (wanted_none rfl) ?_
            clear haf ho hsz2
            intro K hK
            simp only [List.getElem_toArray, List.getElem_cons_succ, List.getElem_cons_zero] at hK ⊢
            go_simp
            exact hK _ _ ⟨Below.refl _ _, hW, rfl⟩
          | n + 12, ho, haf => simp at ho
      · as_aux_lemma =>
          intro aa w9 hW hdf hsz hout hall
          have hat : aa.tmps = #[Value.int IntKind.i64 lim, Value.int IntKind.i64 evy, Value.slice (some { block := lb, off := off }) ls.length c, undef, undef, undef, u6, Value.pointer (some { block := d, off := 0 }), Value.pointer (some { block := b, off := 0 }), Value.pointer (some { block := w2.heap.size, off := 0 }), Value.int IntKind.i64 0, Value.pointer (some { block := w4.heap.size, off := 0 }), Value.int IntKind.i64 0, Value.slice (some { block := g, off := 0 }) n uc, Value.bool true, Value.int IntKind.i64 ((k : Nat) : Int), Value.pointer (some { block := w7.heap.size, off := 0 }), Value.int IntKind.i64 0, undef, undef, undef, undef, undef, undef, undef, Value.tuple #[Value.pointer (some { block := d, off := 0 }), Value.pointer (some { block := b, off := 0 })], Value.int IntKind.i64 lim, Value.int IntKind.i64 evy, Value.tuple #[Value.pointer (some { block := d, off := 0 }), Value.pointer (some { block := b, off := 0 })], Value.pointer (some { block := d, off := 0 }), Value.pointer (some { block := b, off := 0 }), Value.pointer (some { block := d, off := 0 }), Value.bool false, Value.tuple #[Value.agg #[Value.int IntKind.u32 ((p1 : Nat) : Int), Value.int IntKind.i64 ((p2 : Nat) : Int), Value.int IntKind.i64 ((p3 : Nat) : Int)], Value.int IntKind.i64 0], Value.pointer (some { block := b, off := 0 }), Value.agg #[Value.int IntKind.u64 1, Value.int IntKind.i64 1, Value.string { data := #[102, 105, 114, 115, 116] }, Value.string { data := #[] }], Value.tuple #[Value.agg #[Value.int IntKind.u32 ((p1 : Nat) : Int), Value.int IntKind.i64 ((p2 : Nat) : Int), Value.int IntKind.i64 ((p3 : Nat) : Int)], Value.int IntKind.i64 0], Value.agg #[Value.int IntKind.u32 ((p1 : Nat) : Int), Value.int IntKind.i64 ((p2 : Nat) : Int), Value.int IntKind.i64 ((p3 : Nat) : Int)], Value.int IntKind.i64 0, Value.tuple #[Value.agg #[Value.int IntKind.u64 1, Value.int IntKind.i64 1, Value.string { data := #[102, 105, 114, 115, 116] }, Value.string { data := #[] }], Value.int IntKind.i64 0], Value.pointer (some { block := d, off := 0 }), Value.agg #[Value.int IntKind.u32 ((p1 : Nat) : Int), Value.int IntKind.i64 ((p2 : Nat) : Int), Value.int IntKind.i64 ((p3 : Nat) : Int)], Value.tuple #[Value.agg #[Value.int IntKind.u64 1, Value.int IntKind.i64 1, Value.string { data := #[102, 105, 114, 115, 116] }, Value.string { data := #[] }], Value.int IntKind.i64 0], Value.agg #[Value.int IntKind.u64 1, Value.int IntKind.i64 1, Value.string { data := #[102, 105, 114, 115, 116] }, Value.string { data := #[] }], Value.int IntKind.i64 0, Value.int IntKind.i64 0, Value.bool false, Value.bool false, Value.int IntKind.i64 0, Value.bool false, Value.bool false, Value.bool false, Value.pointer (some { block := w4.heap.size, off := 2 }), Value.string { data := #[102, 105, 114, 115, 116] }, Value.bool false, Value.bool false, Value.tuple #[Value.slice (some { block := g, off := 0 }) n uc, Value.bool true], Value.pointer (some { block := b, off := 0 }), Value.slice (some { block := lb, off := off }) ls.length c, Value.tuple #[Value.slice (some { block := g, off := 0 }) n uc, Value.bool true], Value.slice (some { block := g, off := 0 }) n uc, Value.bool true, Value.bool true, Value.bool false, Value.int IntKind.i64 ((k : Nat) : Int), Value.slice (some { block := g, off := 0 }) n uc, Value.int IntKind.i64 ((n : Nat) : Int), Value.bool true, u68, u69, Value.tuple #[Value.agg #[Value.int IntKind.u64 ((rl : Nat) : Int), Value.int IntKind.i64 rk, Value.string rkey, Value.string rval], Value.int IntKind.i64 0], Value.pointer (some { block := d, off := 0 }), Value.slice (some { block := g, off := 0 }) n uc, Value.int IntKind.i64 ((k : Nat) : Int), Value.pointer (some { block := g, off := k * 3 }), Value.agg #[Value.int IntKind.u32 ((q1 : Nat) : Int), Value.int IntKind.i64 ((q2 : Nat) : Int), Value.int IntKind.i64 ((q3 : Nat) : Int)], Value.tuple #[Value.agg #[Value.int IntKind.u64 ((rl : Nat) : Int), Value.int IntKind.i64 rk, Value.string rkey, Value.string rval], Value.int IntKind.i64 0], Value.agg #[Value.int IntKind.u64 ((rl : Nat) : Int), Value.int IntKind.i64 rk, Value.string rkey, Value.string rval], Value.int IntKind.i64 0, Value.int IntKind.i64 0, .bool false, .bool false, .agg #[.int .u64 (rl : Int), .int .i64 rk, .string rkey, .string rval], Value.slice (some { block := lb, off := off }) ls.length c, Value.int IntKind.i64 ((k : Nat) : Int), .pointer (some ⟨lb, off + k * 4, none⟩), .agg #[.string l.key, .string l.val, .bool l.gone, .bool l.syn], Value.int IntKind.i64 ((k : Nat) : Int), .agg #[.int .u64 (rl : Int), .int .i64 rk, .string rkey, .string rval], .bool false, .bool false, undef, undef, undef, undef, undef, undef, undef, undef, undef, undef, undef, undef, undef, undef, undef, undef, undef, undef, undef, undef, undef, undef, undef, undef, undef, undef, undef, undef, undef, undef, undef, undef, undef, undef, undef, undef, undef, undef, undef, undef, undef, undef, undef, undef, undef, undef, undef, undef, undef, undef, undef, undef, undef, undef, undef, undef, undef, undef, undef, undef, undef, undef, undef, undef, undef, undef, undef, undef, undef, undef, undef, undef, undef, undef, undef, undef, undef, undef, undef, undef, undef, undef, undef, undef, undef, undef, undef, undef, undef] := by
            refine (tmps_of (lo := 79) (vs := [Value.int IntKind.i64 0, .bool false, .bool false, .agg #[.int .u64 (rl : Int), .int .i64 rk, .string rkey, .string rval], Value.slice (some { block := lb, off := off }) ls.length c, Value.int IntKind.i64 ((k : Nat) : Int), .pointer (some ⟨lb, off + k * 4, none⟩), .agg #[.string l.key, .string l.val, .bool l.gone, .bool l.syn], Value.int IntKind.i64 ((k : Nat) : Int), .agg #[.int .u64 (rl : Int), .int .i64 rk, .string rkey, .string rval], .bool false, .bool false]) hsz (by kernel_rfl) (Nat.le_of_ble_eq_true (by kernel_rfl)) hout (fun i hi => ?_)).trans ?_
            · match i, hi with
              | 0, _ => exact hall 0 (by decide)
              | 1, _ => exact hall 1 (by decide)
              | 2, _ => exact hall 2 (by decide)
              | 3, _ => exact hall 3 (by decide)
              | 4, _ => exact hall 4 (by decide)
              | 5, _ => exact hall 5 (by decide)
              | 6, _ => exact hall 6 (by decide)
              | 7, _ => exact hall 7 (by decide)
              | 8, _ => exact hall 8 (by decide)
              | 9, _ => exact hall 9 (by decide)
              | 10, _ => exact hall 10 (by decide)
              | 11, _ => exact hall 11 (by decide)
              | n + 12, h => exact absurd h (by simp)
            · rfl
          obtain ⟨tt, dd⟩ := aa
          simp only at hat hdf
          subst hat hdf
          clear hsz hout hall
          go_wp2_with fail
          go_roundw
          case rel => exact ⟨k + 1, HLT.out, by go_num, tick S, ((HD7.out.aside (Tr.ofB HXB.out (fun _ => False)) (fun _ _ q => q)).aside (Tr.ofB hW (fun _ => False)) (fun _ _ q => q)), HNT.out.2.1.trans HFS.out, HNT.out.1, by rw [HNT.out.2.2, HAS.out]; omega, (HT7.out.trans (Tr.ofB HXB.out O6) fun x q => .inl q).trans (Tr.ofB hW O6) fun x q => .inl q⟩
          case measure => have := HLT.out; simp [intOf]; omega
    · have hki : ¬ ((k : Nat) : Int) < (n : Int) := by omega
      obtain rfl : k = n := by omega
      clear hk hlt
      go_wp2_with fail
      have hgk := HGN.out
      have hSf : S.fs = (gsat (bkR ls) (bkS ls) bkX X (1 + k)).2.fs := by rw [HFS.out, HS6.out]
      have hcs : (gsat (bkR ls) (bkS ls) bkX X (1 + k)).2.acts ≤ 1000 := by rw [← HS6.out]; omega
      obtain ⟨ht1, ht2, ht3⟩ := gtold hgk (by omega) S hSf hcs
      have hNl : 1 + k ≤ 61 := by omega
      have hflat := hgk.flat
      refine Calls.mono (files_is wq d O6 S HDS.out (by have := HAS.out; omega)) ?_
      rintro e w8 ⟨vf, rfl, hF8, hb8⟩
      obtain ⟨fa, fc, hfs, hfc⟩ := hF8.shape
      subst hfs
      obtain ⟨T, hT⟩ : ∃ T, T = Dk.told S true := ⟨_, rfl⟩
      rw [← hT] at hF8 ht1 ht3 hfc ⊢
      rw [ht1] at hfc ⊢
      obtain ⟨m, hm⟩ : ∃ m, m = segs.length := ⟨_, rfl⟩
      rw [← hm] at hfc ht2 ⊢
      have HF8 := hd hF8
      have HT3 := hd ht3
      have HFL := hd hflat
      have HTL : Hid (T.length = m) := ht1.trans hm.symm
      have HM := hd hm
      have HB8 : Hid (Below w.heap.size w w8) := HBQ.out.trans (hb8.mono (by omega))
      have HMX : Hid (m ≠ 0 → fc ≤ maxLen) := by
        intro h0
        obtain ⟨s0, hs0⟩ : ∃ s, segs[0]? = some s := ⟨_, List.getElem?_eq_getElem (by omega)⟩
        obtain ⟨_, _, _, _, e, _, q, _⟩ := hF8.at (ht3 0 s0 hs0)
        injection e with _ _ e
        rw [e]; exact q
      have hs8 := hb8.size
      have hRW : ∀ k9, k9 < 1 + k → k9 ≠ 0 → k9 - 1 < ls.length := by omega
      clear hF8 hb8 hT ht1 ht3 hm hflat hgk hSf hcs HGN HR0 HTS HDS HFS HNS HAS HK6 HG6
      go_wp2_with fail
      go_loopw [19, 20] (fun nv x wr => ∃ j : Nat, j ≤ m ∧ x = .int .i64 (j : Int) ∧ nv = .int .i64 (((segs.take j).flatten.length : Nat) : Int) ∧ Below w8.heap.size w8 wr) (fun _ x _ => m - (intOf x).toNat)
      case atStart => exact ⟨0, by omega, rfl, rfl, Below.refl _ _⟩
      case round =>
        obtain ⟨j, hj, rfl, rfl, hB⟩ := hrel
        obtain ⟨wb, hwb⟩ : ∃ wb, wb = wr := ⟨_, rfl⟩
        subst hwb
        have HBB := hd hB
        have hsb := hB.size
        clear hB
        obtain ⟨N0, hN0⟩ : ∃ N0, N0 = (segs.take j).flatten.length := ⟨_, rfl⟩
        rw [← hN0]
        by_cases hjt : j < m
        · have hji : ((j : Nat) : Int) < (m : Int) := by omega
          have HJT : Hid (j + 1 ≤ m) := hjt
          obtain ⟨s, hsj⟩ : ∃ s, segs[j]? = some s := ⟨_, List.getElem?_eq_getElem (by rw [← HM.out]; exact hjt)⟩
          have hsl := seg_len HFL.out (List.mem_of_getElem? hsj)
          have hsN : ∀ i ∈ s, i < 61 := by
            intro i hi
            have : i ∈ segs.flatten := List.mem_flatten.2 ⟨s, List.mem_of_getElem? hsj, hi⟩
            rw [HFL.out] at this
            have := List.mem_range.1 this
            omega
          obtain ⟨D, hD⟩ : ∃ D, D = gdat (bkR ls) s := ⟨_, rfl⟩
          have hDl : D.length ≤ 270000 := by rw [hD]; have := gdat_len (bk_ok ls) s hsN; omega
          have hDc : cln D (locs 0 D) = D := by rw [hD]; exact cln_gdat (bk_ok ls) hsN
          have hDr : (recs [1, 2] D).length = s.length := by rw [hD]; exact recs_len' (bk_ok ls) hsN
          have hDo : (locs 0 D).length = s.length := by rw [hD]; exact locs_len' (bk_ok ls) hsN
          have hDa : ∀ k9, k9 < s.length → ∃ x, (recs [1, 2] D)[k9]? = some x ∧ x.2.2 = ofR (bkR ls ((segs.take j).flatten.length + k9)) ∧ (segs.take j).flatten.length + k9 < 1 + k := by
            intro k9 hk9
            obtain ⟨e1, e2⟩ := seg_at HFL.out hsj hk9
            rw [hD]
            obtain ⟨x, h1, h2⟩ := recs_at (bk_ok ls) hsN e1
            exact ⟨x, h1, h2, e2⟩
          have hTj := HT3.out j s hsj
          rw [← hD] at hTj
          have hF := bfls_below HF8.out HBB.out
          obtain ⟨g, c9, ua9, uc9, e9, _, hcm9, k0, k1, hJ9⟩ := hF.at hTj
          injection e9 with e9 e10 e11
          subst e9
          have hJ9c := hJ9.isB
          have HJ9 := hd hJ9c
          have hDR := hDr
          rw [← hN0] at hDa
          have HDA := hd hDa
          have HN0 : Hid (N0 + s.length = (segs.take (j + 1)).flatten.length) := by rw [hN0]; exact (take_next hsj).symm
          have hNb : N0 ≤ 61 ∧ s.length ≤ 61 := by
            have h5 := take_le HFL.out (j + 1)
            have h8 := HN0.out
            omega
          have HDR := hd hDr
          have HDO := hd hDo
          have HDC := hd hDc
          have HSJ := hd hsj
          have hfcm : fc ≤ maxLen := by rw [e11]; exact hcm9
          have hgl : g < wb.heap.size := lt_of_cell k1
          clear hN0 hD hDa hDr hDR hDo hDc hsj hTj hF hJ9 hJ9c e10 e11 hsN hj
          go_wp2_with fail
          refine Calls.mono (clean_is _ D wb HJ9.out (by omega)) ?_
          rintro e wc ⟨vc, rfl, jc, hbc⟩
          rw [HDC.out] at jc
          obtain ⟨ca, cc, hvc, _⟩ := jc.shape
          subst hvc
          have HJC := hd jc.isB
          have HBC := hd (HBB.out.trans (hbc.mono (by omega)))
          have HJ9 := hd (HJ9.out.below hbc)
          have k0 := (hbc.cell (p := ⟨g, j * 2, none⟩) hgl).trans k0
          have k1 := (hbc.cell (p := ⟨g, j * 2 + 1, none⟩) hgl).trans k1
          have hsc := hbc.size
          clear jc hbc
          go_wp2_with fail
          have hglc : g < wc.heap.size := by omega
          have hcv1 : ∀ w', Below wc.heap.size wc w' → (convert 49 9 (.slice ca D.length cc)).run Tryz.prog w' = .ok (.string (str D)) w' := fun w' hb => Vt.conv_is w' _ D (HJC.out.below hb)
          have hcv2 : ∀ w', Below wc.heap.size wc w' → (convert 49 9 (.slice ua9 D.length uc9)).run Tryz.prog w' = .ok (.string (str D)) w' := fun w' hb => Vt.conv_is w' _ D (HJ9.out.below hb)
          clear k0
          refine region_skip (fun i9 v9 _ => match i9 with
              | 0 => v9 = Value.slice ca D.length cc
              | 1 => v9 = .string (str D)
              | 2 => v9 = Value.slice (some { block := g, off := 0 }) m fc
              | 3 => v9 = Value.int IntKind.i64 ((j : Nat) : Int)
              | 4 => v9 = .pointer (some ⟨g, j * 2, none⟩)
              | 5 => v9 = .pointer (some ⟨g, j * 2 + 1, none⟩)
              | 6 => v9 = .slice ua9 D.length uc9
              | 7 => v9 = .string (str D)
              | _ => v9 = .bool false) (fun w => Below wc.heap.size wc w) hmx (by kernel_rfl) (by kernel_rfl) ((Below.refl _ _).drew) ?_ ?_ ?_
          · as_aux_lemma =>
              intro i9 v9 w8 w9 _ _ hb hG
              match i9, hG with
              | 0, h => exact h
              | 1, h => exact h
              | 2, h => exact h
              | 3, h => exact h
              | 4, h => exact h
              | 5, h => exact h
              | 6, h => exact h
              | 7, h => exact h
              | n + 8, h => exact h
          · as_aux_lemma =>
              intro i9 o9 ho a9 w9 hW hdf hsz hout haf
              have ee18 := getq (show a9.tmps.getD 18 undef = Value.slice (some { block := g, off := 0 }) m fc from hout 18 (notDst_spec (by kernel_rfl)))
              have ee20 := getq (show a9.tmps.getD 20 undef = Value.int IntKind.i64 ((j : Nat) : Int) from hout 20 (notDst_spec (by kernel_rfl)))
              have ee21 := getq (show a9.tmps.getD 21 undef = Value.slice ca D.length cc from hout 21 (notDst_spec (by kernel_rfl)))
              have hsz2 : a9.tmps.size = 180 := hsz
              clear hout hsz hdf
              match i9, ho, haf with
              | 0, ho, haf =>
                obtain rfl := Option.some.inj ho
                refine skip_good _ (wanted_none rfl) ?_
                clear haf ho hsz2
                intro K hK
                simp only [List.getElem_toArray, List.getElem_cons_zero] at hK ⊢
                go_simp
                exact hK _ _ ⟨Below.refl _ _, hW, rfl⟩
              | 1, ho, haf =>
                obtain rfl := Option.some.inj ho
                have f0 := getq (show a9.tmps.getD 105 undef = Value.slice ca D.length cc from haf ⟨0, .data⟩ (by simp) rfl)
                refine skip_good _ (wanted_none rfl) ?_
                clear haf ho hsz2
                intro K hK
                simp only [List.getElem_toArray, List.getElem_cons_succ, List.getElem_cons_zero] at hK ⊢
                have hcv := hcv1 w9 hW
                go_simp
                exact hK _ _ ⟨Below.refl _ _, hW, rfl⟩
              | 2, ho, haf =>
                obtain rfl := Option.some.inj ho
                refine skip_good _ (wanted_none rfl) ?_
                clear haf ho hsz2
                intro K hK
                simp only [List.getElem_toArray, List.getElem_cons_succ, List.getElem_cons_zero] at hK ⊢
                go_simp
                exact hK _ _ ⟨Below.refl _ _, hW, rfl⟩
              | 3, ho, haf =>
                obtain rfl := Option.some.inj ho
                refine skip_good _ (wanted_none rfl) ?_
                clear haf ho hsz2
                intro K hK
                simp only [List.getElem_toArray, List.getElem_cons_succ, List.getElem_cons_zero] at hK ⊢
                go_simp
                exact hK _ _ ⟨Below.refl _ _, hW, rfl⟩
              | 4, ho, haf =>
                obtain rfl := Option.some.inj ho
                have f2 := getq (show a9.tmps.getD 107 undef = Value.slice (some { block := g, off := 0 }) m fc from haf ⟨2, .data⟩ (by simp) rfl)
                have f3 := getq (show a9.tmps.getD 108 undef = Value.int IntKind.i64 ((j : Nat) : Int) from haf ⟨3, .data⟩ (by simp) rfl)
                refine skip_good _ (wanted_none rfl) ?_
                clear haf ho hsz2
                intro K hK
                simp only [List.getElem_toArray, List.getElem_cons_succ, List.getElem_cons_zero] at hK ⊢
                go_simp
                exact hK _ _ ⟨Below.refl _ _, hW, rfl⟩
              | 5, ho, haf =>
                obtain rfl := Option.some.inj ho
                have f4 := getq (show a9.tmps.getD 109 undef = .pointer (some ⟨g, j * 2, none⟩) from haf ⟨4, .data⟩ (by simp) rfl)
                refine skip_good _ (wanted_none rfl) ?_
                clear haf ho hsz2
                intro K hK
                simp only [List.getElem_toArray, List.getElem_cons_succ, List.getElem_cons_zero] at hK ⊢
                go_simp
                exact hK _ _ ⟨Below.refl _ _, hW, rfl⟩
              | 6, ho, haf =>
                obtain rfl := Option.some.inj ho
                have f5 := getq (show a9.tmps.getD 110 undef = .pointer (some ⟨g, j * 2 + 1, none⟩) from haf ⟨5, .data⟩ (by simp) rfl)
                refine skip_good _ (wanted_none rfl) ?_
                clear haf ho hsz2
                intro K hK
                simp only [List.getElem_toArray, List.getElem_cons_succ, List.getElem_cons_zero] at hK ⊢
                have kk := (hW.cell (p := ⟨g, j * 2 + 1, none⟩) hglc).trans k1
                go_simp
                exact hK _ _ ⟨Below.refl _ _, hW, rfl⟩
              | 7, ho, haf =>
                obtain rfl := Option.some.inj ho
                have f6 := getq (show a9.tmps.getD 111 undef = .slice ua9 D.length uc9 from haf ⟨6, .data⟩ (by simp) rfl)
                refine skip_good _ (wanted_none rfl) ?_
                clear haf ho hsz2
                intro K hK
                simp only [List.getElem_toArray, List.getElem_cons_succ, List.getElem_cons_zero] at hK ⊢
                have hcv := hcv2 w9 hW
                go_simp
                exact hK _ _ ⟨Below.refl _ _, hW, rfl⟩
              | 8, ho, haf =>
                obtain rfl := Option.some.inj ho
                have f1 := getq (show a9.tmps.getD 106 undef = .string (str D) from haf ⟨1, .data⟩ (by simp) rfl)
                have f7 := getq (show a9.tmps.getD 112 undef = .string (str D) from haf ⟨7, .data⟩ (by simp) rfl)
                refine skip_good _ (wanted_none rfl) ?_
                clear haf ho hsz2
                intro K hK
                simp only [List.getElem_toArray, List.getElem_cons_succ, List.getElem_cons_zero] at hK ⊢
                go_simp
                exact hK _ _ ⟨Below.refl _ _, hW, rfl⟩
              | n + 9, ho, haf => simp at ho
          · as_aux_lemma =>
              intro aa w9 hW hdf hsz hout hall
              have hat : aa.tmps = #[Value.int IntKind.i64 lim, Value.int IntKind.i64 evy, Value.slice a ls.length c, undef, undef, undef, u6, Value.pointer (some { block := d, off := 0 }), Value.pointer (some { block := b, off := 0 }), Value.pointer (some { block := w2.heap.size, off := 0 }), Value.int IntKind.i64 0, Value.pointer (some { block := w4.heap.size, off := 0 }), Value.int IntKind.i64 0, Value.slice ua k uc, Value.bool true, Value.int IntKind.i64 ((k : Nat) : Int), u16, u17, Value.slice (some { block := g, off := 0 }) m fc, Value.int IntKind.i64 ((N0 : Nat) : Int), Value.int IntKind.i64 ((j : Nat) : Int), Value.slice ca D.length cc, u22, u23, u24, Value.tuple #[Value.pointer (some { block := d, off := 0 }), Value.pointer (some { block := b, off := 0 })], Value.int IntKind.i64 lim, Value.int IntKind.i64 evy, Value.tuple #[Value.pointer (some { block := d, off := 0 }), Value.pointer (some { block := b, off := 0 })], Value.pointer (some { block := d, off := 0 }), Value.pointer (some { block := b, off := 0 }), Value.pointer (some { block := d, off := 0 }), Value.bool false, Value.tuple #[Value.agg #[Value.int IntKind.u32 ((p1 : Nat) : Int), Value.int IntKind.i64 ((p2 : Nat) : Int), Value.int IntKind.i64 ((p3 : Nat) : Int)], Value.int IntKind.i64 0], Value.pointer (some { block := b, off := 0 }), Value.agg #[Value.int IntKind.u64 1, Value.int IntKind.i64 1, Value.string { data := #[102, 105, 114, 115, 116] }, Value.string { data := #[] }], Value.tuple #[Value.agg #[Value.int IntKind.u32 ((p1 : Nat) : Int), Value.int IntKind.i64 ((p2 : Nat) : Int), Value.int IntKind.i64 ((p3 : Nat) : Int)], Value.int IntKind.i64 0], Value.agg #[Value.int IntKind.u32 ((p1 : Nat) : Int), Value.int IntKind.i64 ((p2 : Nat) : Int), Value.int IntKind.i64 ((p3 : Nat) : Int)], Value.int IntKind.i64 0, Value.tuple #[Value.agg #[Value.int IntKind.u64 1, Value.int IntKind.i64 1, Value.string { data := #[102, 105, 114, 115, 116] }, Value.string { data := #[] }], Value.int IntKind.i64 0], Value.pointer (some { block := d, off := 0 }), Value.agg #[Value.int IntKind.u32 ((p1 : Nat) : Int), Value.int IntKind.i64 ((p2 : Nat) : Int), Value.int IntKind.i64 ((p3 : Nat) : Int)], Value.tuple #[Value.agg #[Value.int IntKind.u64 1, Value.int IntKind.i64 1, Value.string { data := #[102, 105, 114, 115, 116] }, Value.string { data := #[] }], Value.int IntKind.i64 0], Value.agg #[Value.int IntKind.u64 1, Value.int IntKind.i64 1, Value.string { data := #[102, 105, 114, 115, 116] }, Value.string { data := #[] }], Value.int IntKind.i64 0, Value.int IntKind.i64 0, Value.bool false, Value.bool false, Value.int IntKind.i64 0, Value.bool false, Value.bool false, Value.bool false, Value.pointer (some { block := w4.heap.size, off := 2 }), Value.string { data := #[102, 105, 114, 115, 116] }, Value.bool false, Value.bool false, Value.tuple #[Value.slice ua k uc, Value.bool true], Value.pointer (some { block := b, off := 0 }), Value.slice a ls.length c, Value.tuple #[Value.slice ua k uc, Value.bool true], Value.slice ua k uc, Value.bool true, Value.bool true, Value.bool false, Value.int IntKind.i64 ((k : Nat) : Int), Value.slice ua k uc, Value.int IntKind.i64 ((k : Nat) : Int), Value.bool false, u68, u69, u70, u71, u72, u73, u74, u75, u76, u77, u78, u79, u80, u81, u82, u83, u84, u85, u86, u87, u88, u89, u90, Value.pointer (some { block := d, off := 0 }), Value.slice (some { block := g, off := 0 }) m fc, Value.int IntKind.i64 ((j : Nat) : Int), Value.slice (some { block := g, off := 0 }) m fc, Value.int IntKind.i64 ((m : Nat) : Int), Value.bool true, u97, u98, Value.slice (some { block := g, off := 0 }) m fc, Value.int IntKind.i64 ((j : Nat) : Int), Value.pointer (some { block := g, off := j * 2 }), Value.pointer (some { block := g, off := j * 2 + 1 }), Value.slice ua9 D.length uc9, Value.slice ca D.length cc, Value.slice ca D.length cc, .string (str D), Value.slice (some { block := g, off := 0 }) m fc, Value.int IntKind.i64 ((j : Nat) : Int), .pointer (some ⟨g, j * 2, none⟩), .pointer (some ⟨g, j * 2 + 1, none⟩), .slice ua9 D.length uc9, .string (str D), .bool false, u114, u115, u116, u117, u118, u119, u120, u121, u122, u123, u124, u125, u126, u127, u128, u129, u130, u131, u132, u133, u134, u135, u136, u137, u138, u139, u140, u141, u142, u143, u144, u145, u146, u147, u148, u149, u150, u151, u152, u153, u154, u155, u156, u157, u158, u159, u160, u161, u162, u163, u164, u165, u166, u167, u168, u169, u170, u171, u172, u173, u174, undef, undef, undef, undef, undef] := by
                refine (tmps_of (lo := 105) (vs := [Value.slice ca D.length cc, .string (str D), Value.slice (some { block := g, off := 0 }) m fc, Value.int IntKind.i64 ((j : Nat) : Int), .pointer (some ⟨g, j * 2, none⟩), .pointer (some ⟨g, j * 2 + 1, none⟩), .slice ua9 D.length uc9, .string (str D), .bool false]) hsz (by kernel_rfl) (Nat.le_of_ble_eq_true (by kernel_rfl)) hout (fun i hi => ?_)).trans ?_
                · match i, hi with
                  | 0, _ => exact hall 0 (by decide)
                  | 1, _ => exact hall 1 (by decide)
                  | 2, _ => exact hall 2 (by decide)
                  | 3, _ => exact hall 3 (by decide)
                  | 4, _ => exact hall 4 (by decide)
                  | 5, _ => exact hall 5 (by decide)
                  | 6, _ => exact hall 6 (by decide)
                  | 7, _ => exact hall 7 (by decide)
                  | 8, _ => exact hall 8 (by decide)
                  | n + 9, h => exact absurd h (by simp)
                · rfl
              obtain ⟨tt, dd⟩ := aa
              simp only at hat hdf
              subst hat hdf
              clear hsz hout hall
              have HW9 := hd hW
              have HBC := hd (HBC.out.trans (hW.mono (by omega)))
              have HJ9 := hd (HJ9.out.below hW)
              have k1 := (hW.cell (p := ⟨g, j * 2 + 1, none⟩) hglc).trans k1
              have hs9 := hW.size
              clear hW hcv1 hcv2 HJC
              go_wp2_with fail
              refine Calls.mono (records_nil _ D w9 HJ9.out (by omega)) ?_
              rintro e wd ⟨vd, rfl, jd, hbd⟩
              obtain ⟨da, dc, hvd, hdc⟩ := jd.shape
              subst hvd
              rw [List.length_map, HDR.out] at hdc ⊢
              rw [List.length_map, HDR.out] at jd
              have HJD := hd jd
              have HBD := hd (HBC.out.trans (hbd.mono (by omega)))
              have HJ9 := hd (HJ9.out.below hbd)
              have k1 := (hbd.cell (p := ⟨g, j * 2 + 1, none⟩) (by show g < w9.heap.size; omega)).trans k1
              have hsd := hbd.size
              clear jd hbd HBC
              go_wp2_with fail
              have hpr := print_is _ D wd HJ9.out
              rw [HDO.out] at hpr
              obtain ⟨cr, hcr⟩ : ∃ cr, Crc.go 0 D = cr := ⟨_, rfl⟩
              rw [hcr] at hpr
              have HPR := hd hpr
              clear hpr hcr
              refine Calls.mono HPR.out ?_
              rintro e we ⟨rfl, hbe⟩
              have HJD := hd (HJD.out.keepAll hbe)
              have HBE := hd (HBD.out.trans (hbe.mono (by omega)))
              have HJ9 := hd (HJ9.out.below hbe)
              have k1 := (hbe.cell (p := ⟨g, j * 2 + 1, none⟩) (by show g < wd.heap.size; omega)).trans k1
              have hse := hbe.size
              clear hbe HBD HPR
              unfold prv
              go_wp2_with fail
              obtain ⟨WP, hWP⟩ : ∃ WP, WP = we.alloc (.cells #[.int .i64 (D.length : Int), .int .i64 (s.length : Int), .int .u32 (cr : Int)] 55) := ⟨_, rfl⟩
              have hbP : Below we.heap.size we WP := by rw [hWP]; exact (Below.refl _ _).alloc (Nat.le_refl _) _
              have hrP : Blk WP we.heap.size 55 [.int .i64 (D.length : Int), .int .i64 (s.length : Int), .int .u32 (cr : Int)] := by rw [hWP]; exact Blk.new we _ [.int .i64 (D.length : Int), .int .i64 (s.length : Int), .int .u32 (cr : Int)]
              rw [← hWP]
              have pr0 := hrP.cell 0 _ rfl
              have pr1 := hrP.cell 1 _ rfl
              have k1 := (hbP.cell (p := ⟨g, j * 2 + 1, none⟩) (by show g < we.heap.size; omega)).trans k1
              have HJD := hd (HJD.out.keepAll hbP)
              have HBP := hd (HBE.out.trans (hbP.mono (by omega)))
              have hsp := hbP.size
              clear hWP hbP hrP HBE HJ9
              go_quiet (fail)
              go_wp2_with fail
              go_loopw [19, 24] (fun nv x wr => ∃ kk M : Nat, kk ≤ s.length ∧ M = N0 + kk ∧ x = .int .i64 (kk : Int) ∧ nv = .int .i64 (M : Int) ∧ Below WP.heap.size WP wr) (fun _ x _ => s.length - (intOf x).toNat)
              case atStart => exact ⟨0, N0, by omega, by omega, rfl, rfl, below_drewN (Below.refl _ _) _⟩
              case round =>
                obtain ⟨kk, M, hkk, hM, rfl, rfl, hBI⟩ := hrel
                obtain ⟨wi, hwi⟩ : ∃ wi, wi = wr := ⟨_, rfl⟩
                subst hwi
                have HBI := hd hBI
                have hsi := hBI.size
                have HMM := hd hM
                clear hBI
                by_cases hks : kk < s.length
                · have hki : ((kk : Nat) : Int) < (s.length : Int) := by omega
                  have HKS : Hid (kk + 1 ≤ s.length) := hks
                  obtain ⟨xx, hx1, hx2, hx3⟩ := HDA.out kk hks
                  rw [← hM] at hx2 hx3
                  obtain ⟨gd, cd9, hvd, _, _⟩ := (HJD.out.keepAll HBI.out).nn (by intro e; have := congrArg List.length e; rw [List.length_map, HDR.out] at this; change s.length = 0 at this; omega)
                  injection hvd with hv1 hv2 hv3
                  subst hv1
                  clear hv2 hv3
                  have hrow := HJD.out.keepAll HBI.out
                  have hMb : M ≤ 61 := by omega
                  clear hM hkk
                  cases M with
                  | zero =>
                    clear hx1 hx2 hx3 hrow
                    go_wp2_with fail
                    refine region_skip (fun i9 v9 _ => match i9 with
                        | 0 => v9 = Value.int IntKind.i64 ((0 : Nat) : Int)
                        | 1 => v9 = .bool false
                        | 2 => v9 = .bool false
                        | 3 => v9 = undef
                        | 4 => v9 = undef
                        | 5 => v9 = undef
                        | 6 => v9 = undef
                        | 7 => v9 = undef
                        | 8 => v9 = undef
                        | 9 => v9 = undef
                        | 10 => v9 = undef
                        | 11 => v9 = undef
                        | 12 => v9 = undef
                        | 13 => v9 = undef
                        | 14 => v9 = undef
                        | 15 => v9 = undef
                        | 16 => v9 = undef
                        | 17 => v9 = undef
                        | 18 => v9 = undef
                        | 19 => v9 = undef
                        | 20 => v9 = undef
                        | 21 => v9 = undef
                        | 22 => v9 = undef
                        | 23 => v9 = undef
                        | _ => v9 = .bool false) (fun w => Below wi.heap.size wi w) hmx (by kernel_rfl) (by kernel_rfl) ((Below.refl _ _).drew) ?_ ?_ ?_
                    · as_aux_lemma =>
                        intro i9 v9 w8 w9 _ _ hb hG
                        match i9, hG with
                        | 0, h => exact h
                        | 1, h => exact h
                        | 2, h => exact h
                        | 3, h => exact h
                        | 4, h => exact h
                        | 5, h => exact h
                        | 6, h => exact h
                        | 7, h => exact h
                        | 8, h => exact h
                        | 9, h => exact h
                        | 10, h => exact h
                        | 11, h => exact h
                        | 12, h => exact h
                        | 13, h => exact h
                        | 14, h => exact h
                        | 15, h => exact h
                        | 16, h => exact h
                        | 17, h => exact h
                        | 18, h => exact h
                        | 19, h => exact h
                        | 20, h => exact h
                        | 21, h => exact h
                        | 22, h => exact h
                        | 23, h => exact h
                        | n + 24, h => exact h
                    · as_aux_lemma =>
                        intro i9 o9 ho a9 w9 hW hdf hsz hout haf
                        have ee19 := getq (show a9.tmps.getD 19 undef = Value.int IntKind.i64 ((0 : Nat) : Int) from hout 19 (notDst_spec (by kernel_rfl)))
                        have hsz2 : a9.tmps.size = 180 := hsz
                        clear hout hsz hdf
                        match i9, ho, haf with
                        | 0, ho, haf =>
                          obtain rfl := Option.some.inj ho
                          refine skip_good _ (wanted_none rfl) ?_
                          clear haf ho hsz2
                          intro K hK
                          simp only [List.getElem_toArray, List.getElem_cons_zero] at hK ⊢
                          go_simp
                          exact hK _ _ ⟨Below.refl _ _, hW, rfl⟩
                        | 1, ho, haf =>
                          obtain rfl := Option.some.inj ho
                          have f0 := getq (show a9.tmps.getD 148 undef = Value.int IntKind.i64 ((0 : Nat) : Int) from haf ⟨0, .data⟩ (by simp) rfl)
                          refine skip_good _ (wanted_none rfl) ?_
                          clear haf ho hsz2
                          intro K hK
                          simp only [List.getElem_toArray, List.getElem_cons_succ, List.getElem_cons_zero] at hK ⊢
                          go_simp
                          exact hK _ _ ⟨Below.refl _ _, hW, (by first | rfl | (simp only [Value.bool.injEq, decide_eq_false_iff_not]; omega) | (simp only [Value.bool.injEq, decide_eq_true_eq]; omega) | (simp; done) | (simp; omega))⟩
                        | 2, ho, haf =>
                          obtain rfl := Option.some.inj ho
                          have f1 := getq (show a9.tmps.getD 149 undef = .bool false from haf ⟨1, .data⟩ (by simp) rfl)
                          refine skip_good _ (wanted_none rfl) ?_
                          clear haf ho hsz2
                          intro K hK
                          simp only [List.getElem_toArray, List.getElem_cons_succ, List.getElem_cons_zero] at hK ⊢
                          go_simp
                          exact hK _ _ ⟨Below.refl _ _, hW, rfl⟩
                        | 3, ho, haf =>
                          obtain rfl := Option.some.inj ho
                          have gg : a9.tmps.getD 150 undef = .bool false := haf ⟨2, .guard⟩ (by simp) rfl
                          exact skip_no (b := false) rfl (yielded_of (d := 150) rfl (by omega) gg) rfl
                        | 4, ho, haf =>
                          obtain rfl := Option.some.inj ho
                          have gg : a9.tmps.getD 150 undef = .bool false := haf ⟨2, .guard⟩ (by simp) rfl
                          exact skip_no (b := false) rfl (yielded_of (d := 150) rfl (by omega) gg) rfl
                        | 5, ho, haf =>
                          obtain rfl := Option.some.inj ho
                          have gg : a9.tmps.getD 150 undef = .bool false := haf ⟨2, .guard⟩ (by simp) rfl
                          exact skip_no (b := false) rfl (yielded_of (d := 150) rfl (by omega) gg) rfl
                        | 6, ho, haf =>
                          obtain rfl := Option.some.inj ho
                          have gg : a9.tmps.getD 150 undef = .bool false := haf ⟨2, .guard⟩ (by simp) rfl
                          exact skip_no (b := false) rfl (yielded_of (d := 150) rfl (by omega) gg) rfl
                        | 7, ho, haf =>
                          obtain rfl := Option.some.inj ho
                          have gg : a9.tmps.getD 150 undef = .bool false := haf ⟨2, .guard⟩ (by simp) rfl
                          exact skip_no (b := false) rfl (yielded_of (d := 150) rfl (by omega) gg) rfl
                        | 8, ho, haf =>
                          obtain rfl := Option.some.inj ho
                          have gg : a9.tmps.getD 155 undef = undef := haf ⟨7, .guard⟩ (by simp) rfl
                          exact skip_un rfl (yielded_un (d := 155) rfl gg) rfl
                        | 9, ho, haf =>
                          obtain rfl := Option.some.inj ho
                          have gg : a9.tmps.getD 155 undef = undef := haf ⟨7, .guard⟩ (by simp) rfl
                          exact skip_un rfl (yielded_un (d := 155) rfl gg) rfl
                        | 10, ho, haf =>
                          obtain rfl := Option.some.inj ho
                          have gg : a9.tmps.getD 155 undef = undef := haf ⟨7, .guard⟩ (by simp) rfl
                          exact skip_un rfl (yielded_un (d := 155) rfl gg) rfl
                        | 11, ho, haf =>
                          obtain rfl := Option.some.inj ho
                          have gg : a9.tmps.getD 155 undef = undef := haf ⟨7, .guard⟩ (by simp) rfl
                          exact skip_un rfl (yielded_un (d := 155) rfl gg) rfl
                        | 12, ho, haf =>
                          obtain rfl := Option.some.inj ho
                          have gg : a9.tmps.getD 155 undef = undef := haf ⟨7, .guard⟩ (by simp) rfl
                          exact skip_un rfl (yielded_un (d := 155) rfl gg) rfl
                        | 13, ho, haf =>
                          obtain rfl := Option.some.inj ho
                          have gg : a9.tmps.getD 155 undef = undef := haf ⟨7, .guard⟩ (by simp) rfl
                          exact skip_un rfl (yielded_un (d := 155) rfl gg) rfl
                        | 14, ho, haf =>
                          obtain rfl := Option.some.inj ho
                          have gg : a9.tmps.getD 155 undef = undef := haf ⟨7, .guard⟩ (by simp) rfl
                          exact skip_un rfl (yielded_un (d := 155) rfl gg) rfl
                        | 15, ho, haf =>
                          obtain rfl := Option.some.inj ho
                          have gg : a9.tmps.getD 155 undef = undef := haf ⟨7, .guard⟩ (by simp) rfl
                          exact skip_un rfl (yielded_un (d := 155) rfl gg) rfl
                        | 16, ho, haf =>
                          obtain rfl := Option.some.inj ho
                          have gg : a9.tmps.getD 155 undef = undef := haf ⟨7, .guard⟩ (by simp) rfl
                          exact skip_un rfl (yielded_un (d := 155) rfl gg) rfl
                        | 17, ho, haf =>
                          obtain rfl := Option.some.inj ho
                          have gg : a9.tmps.getD 155 undef = undef := haf ⟨7, .guard⟩ (by simp) rfl
                          exact skip_un rfl (yielded_un (d := 155) rfl gg) rfl
                        | 18, ho, haf =>
                          obtain rfl := Option.some.inj ho
                          have gg : a9.tmps.getD 155 undef = undef := haf ⟨7, .guard⟩ (by simp) rfl
                          exact skip_un rfl (yielded_un (d := 155) rfl gg) rfl
                        | 19, ho, haf =>
                          obtain rfl := Option.some.inj ho
                          have gg : a9.tmps.getD 155 undef = undef := haf ⟨7, .guard⟩ (by simp) rfl
                          exact skip_un rfl (yielded_un (d := 155) rfl gg) rfl
                        | 20, ho, haf =>
                          obtain rfl := Option.some.inj ho
                          have gg : a9.tmps.getD 155 undef = undef := haf ⟨7, .guard⟩ (by simp) rfl
                          exact skip_un rfl (yielded_un (d := 155) rfl gg) rfl
                        | 21, ho, haf =>
                          obtain rfl := Option.some.inj ho
                          have gg : a9.tmps.getD 155 undef = undef := haf ⟨7, .guard⟩ (by simp) rfl
                          exact skip_un rfl (yielded_un (d := 155) rfl gg) rfl
                        | 22, ho, haf =>
                          obtain rfl := Option.some.inj ho
                          have gg : a9.tmps.getD 155 undef = undef := haf ⟨7, .guard⟩ (by simp) rfl
                          exact skip_un rfl (yielded_un (d := 155) rfl gg) rfl
                        | 23, ho, haf =>
                          obtain rfl := Option.some.inj ho
                          have gg : a9.tmps.getD 150 undef = .bool false := haf ⟨2, .guard⟩ (by simp) rfl
                          exact skip_no (b := false) rfl (yielded_of (d := 150) rfl (by omega) gg) rfl
                        | 24, ho, haf =>
                          obtain rfl := Option.some.inj ho
                          have f2 := getq (show a9.tmps.getD 150 undef = .bool false from haf ⟨2, .data⟩ (by simp) rfl)
                          have f23 := getq (show a9.tmps.getD 171 undef = undef from haf ⟨23, .data⟩ (by simp) rfl)
                          refine skip_good _ (wanted_none rfl) ?_
                          clear haf ho hsz2
                          intro K hK
                          simp only [List.getElem_toArray, List.getElem_cons_succ, List.getElem_cons_zero] at hK ⊢
                          go_simp
                          exact hK _ _ ⟨Below.refl _ _, hW, rfl⟩
                        | n + 25, ho, haf => simp at ho
                    · as_aux_lemma =>
                        intro aa w9 hW hdf hsz hout hall
                        have hat : aa.tmps = #[Value.int IntKind.i64 lim, Value.int IntKind.i64 evy, Value.slice a ls.length c, undef, undef, undef, u6, Value.pointer (some { block := d, off := 0 }), Value.pointer (some { block := b, off := 0 }), Value.pointer (some { block := w2.heap.size, off := 0 }), Value.int IntKind.i64 0, Value.pointer (some { block := w4.heap.size, off := 0 }), Value.int IntKind.i64 0, Value.slice ua k uc, Value.bool true, Value.int IntKind.i64 ((k : Nat) : Int), u16, u17, Value.slice (some { block := g, off := 0 }) m fc, Value.int IntKind.i64 ((0 : Nat) : Int), Value.int IntKind.i64 ((j : Nat) : Int), Value.slice ca D.length cc, Value.slice (some { block := gd, off := 0 }) s.length dc, Value.pointer (some { block := we.heap.size, off := 0 }), Value.int IntKind.i64 ((kk : Nat) : Int), Value.tuple #[Value.pointer (some { block := d, off := 0 }), Value.pointer (some { block := b, off := 0 })], Value.int IntKind.i64 lim, Value.int IntKind.i64 evy, Value.tuple #[Value.pointer (some { block := d, off := 0 }), Value.pointer (some { block := b, off := 0 })], Value.pointer (some { block := d, off := 0 }), Value.pointer (some { block := b, off := 0 }), Value.pointer (some { block := d, off := 0 }), Value.bool false, Value.tuple #[Value.agg #[Value.int IntKind.u32 ((p1 : Nat) : Int), Value.int IntKind.i64 ((p2 : Nat) : Int), Value.int IntKind.i64 ((p3 : Nat) : Int)], Value.int IntKind.i64 0], Value.pointer (some { block := b, off := 0 }), Value.agg #[Value.int IntKind.u64 1, Value.int IntKind.i64 1, Value.string { data := #[102, 105, 114, 115, 116] }, Value.string { data := #[] }], Value.tuple #[Value.agg #[Value.int IntKind.u32 ((p1 : Nat) : Int), Value.int IntKind.i64 ((p2 : Nat) : Int), Value.int IntKind.i64 ((p3 : Nat) : Int)], Value.int IntKind.i64 0], Value.agg #[Value.int IntKind.u32 ((p1 : Nat) : Int), Value.int IntKind.i64 ((p2 : Nat) : Int), Value.int IntKind.i64 ((p3 : Nat) : Int)], Value.int IntKind.i64 0, Value.tuple #[Value.agg #[Value.int IntKind.u64 1, Value.int IntKind.i64 1, Value.string { data := #[102, 105, 114, 115, 116] }, Value.string { data := #[] }], Value.int IntKind.i64 0], Value.pointer (some { block := d, off := 0 }), Value.agg #[Value.int IntKind.u32 ((p1 : Nat) : Int), Value.int IntKind.i64 ((p2 : Nat) : Int), Value.int IntKind.i64 ((p3 : Nat) : Int)], Value.tuple #[Value.agg #[Value.int IntKind.u64 1, Value.int IntKind.i64 1, Value.string { data := #[102, 105, 114, 115, 116] }, Value.string { data := #[] }], Value.int IntKind.i64 0], Value.agg #[Value.int IntKind.u64 1, Value.int IntKind.i64 1, Value.string { data := #[102, 105, 114, 115, 116] }, Value.string { data := #[] }], Value.int IntKind.i64 0, Value.int IntKind.i64 0, Value.bool false, Value.bool false, Value.int IntKind.i64 0, Value.bool false, Value.bool false, Value.bool false, Value.pointer (some { block := w4.heap.size, off := 2 }), Value.string { data := #[102, 105, 114, 115, 116] }, Value.bool false, Value.bool false, Value.tuple #[Value.slice ua k uc, Value.bool true], Value.pointer (some { block := b, off := 0 }), Value.slice a ls.length c, Value.tuple #[Value.slice ua k uc, Value.bool true], Value.slice ua k uc, Value.bool true, Value.bool true, Value.bool false, Value.int IntKind.i64 ((k : Nat) : Int), Value.slice ua k uc, Value.int IntKind.i64 ((k : Nat) : Int), Value.bool false, u68, u69, u70, u71, u72, u73, u74, u75, u76, u77, u78, u79, u80, u81, u82, u83, u84, u85, u86, u87, u88, u89, u90, Value.pointer (some { block := d, off := 0 }), Value.slice (some { block := g, off := 0 }) m fc, Value.int IntKind.i64 ((j : Nat) : Int), Value.slice (some { block := g, off := 0 }) m fc, Value.int IntKind.i64 ((m : Nat) : Int), Value.bool true, u97, u98, Value.slice (some { block := g, off := 0 }) m fc, Value.int IntKind.i64 ((j : Nat) : Int), Value.pointer (some { block := g, off := j * 2 }), Value.pointer (some { block := g, off := j * 2 + 1 }), Value.slice ua9 D.length uc9, Value.slice ca D.length cc, Value.slice ca D.length cc, Value.string (str D), Value.slice (some { block := g, off := 0 }) m fc, Value.int IntKind.i64 ((j : Nat) : Int), Value.pointer (some { block := g, off := j * 2 }), Value.pointer (some { block := g, off := j * 2 + 1 }), Value.slice ua9 D.length uc9, Value.string (str D), Value.bool false, Value.slice (some { block := g, off := 0 }) m fc, Value.int IntKind.i64 ((j : Nat) : Int), Value.pointer (some { block := g, off := j * 2 }), Value.pointer (some { block := g, off := j * 2 + 1 }), Value.slice ua9 D.length uc9, Value.slice (some { block := gd, off := 0 }) s.length dc, Value.slice (some { block := g, off := 0 }) m fc, Value.int IntKind.i64 ((j : Nat) : Int), Value.pointer (some { block := g, off := j * 2 }), Value.pointer (some { block := g, off := j * 2 + 1 }), Value.slice ua9 D.length uc9, Value.agg #[Value.int IntKind.i64 ((D.length : Nat) : Int), Value.int IntKind.i64 ((s.length : Nat) : Int), Value.int IntKind.u32 ((cr : Nat) : Int)], Value.pointer (some { block := we.heap.size, off := 1 }), Value.int IntKind.i64 ((s.length : Nat) : Int), Value.slice (some { block := gd, off := 0 }) s.length dc, Value.int IntKind.i64 ((s.length : Nat) : Int), Value.bool false, Value.bool false, Value.pointer (some { block := we.heap.size, off := 0 }), Value.int IntKind.i64 ((D.length : Nat) : Int), Value.slice (some { block := g, off := 0 }) m fc, Value.int IntKind.i64 ((j : Nat) : Int), Value.pointer (some { block := g, off := j * 2 }), Value.pointer (some { block := g, off := j * 2 + 1 }), Value.slice ua9 D.length uc9, Value.int IntKind.i64 ((D.length : Nat) : Int), Value.bool false, Value.bool false, Value.int IntKind.i64 ((kk : Nat) : Int), Value.slice (some { block := gd, off := 0 }) s.length dc, Value.int IntKind.i64 ((s.length : Nat) : Int), Value.bool true, u146, u147, Value.int IntKind.i64 ((0 : Nat) : Int), .bool false, .bool false, undef, undef, undef, undef, undef, undef, undef, undef, undef, undef, undef, undef, undef, undef, undef, undef, undef, undef, undef, undef, undef, .bool false, u173, u174, undef, undef, undef, undef, undef] := by
                          refine (tmps_of (lo := 148) (vs := [Value.int IntKind.i64 ((0 : Nat) : Int), .bool false, .bool false, undef, undef, undef, undef, undef, undef, undef, undef, undef, undef, undef, undef, undef, undef, undef, undef, undef, undef, undef, undef, undef, .bool false]) hsz (by kernel_rfl) (Nat.le_of_ble_eq_true (by kernel_rfl)) hout (fun i hi => ?_)).trans ?_
                          · match i, hi with
                            | 0, _ => exact hall 0 (by decide)
                            | 1, _ => exact hall 1 (by decide)
                            | 2, _ => exact hall 2 (by decide)
                            | 3, _ => exact hall 3 (by decide)
                            | 4, _ => exact hall 4 (by decide)
                            | 5, _ => exact hall 5 (by decide)
                            | 6, _ => exact hall 6 (by decide)
                            | 7, _ => exact hall 7 (by decide)
                            | 8, _ => exact hall 8 (by decide)
                            | 9, _ => exact hall 9 (by decide)
                            | 10, _ => exact hall 10 (by decide)
                            | 11, _ => exact hall 11 (by decide)
                            | 12, _ => exact hall 12 (by decide)
                            | 13, _ => exact hall 13 (by decide)
                            | 14, _ => exact hall 14 (by decide)
                            | 15, _ => exact hall 15 (by decide)
                            | 16, _ => exact hall 16 (by decide)
                            | 17, _ => exact hall 17 (by decide)
                            | 18, _ => exact hall 18 (by decide)
                            | 19, _ => exact hall 19 (by decide)
                            | 20, _ => exact hall 20 (by decide)
                            | 21, _ => exact hall 21 (by decide)
                            | 22, _ => exact hall 22 (by decide)
                            | 23, _ => exact hall 23 (by decide)
                            | 24, _ => exact hall 24 (by decide)
                            | n + 25, h => exact absurd h (by simp)
                          · rfl
                        obtain ⟨tt, dd⟩ := aa
                        simp only at hat hdf
                        subst hat hdf
                        clear hsz hout hall
                        have HWF := hd (HBI.out.trans (hW.mono hsi))
                        clear hW
                        go_wp2_with fail
                        go_roundw
                        case rel => exact ⟨kk + 1, 0 + 1, HKS.out, by have := HMM.out; omega, by go_num, by go_num, HWF.out⟩
                        case measure => have := HKS.out; simp [intOf]; omega
                  | succ M1 =>
                    obtain ⟨lb, off, l, rfl, hlk, hgd, hks9, hvs9, d0, d1, d2, d3⟩ := (HL.out.below (HB8.out.trans ((HBP.out.trans (HBI.out.mono (by omega))).mono (by omega)))).at (by omega : M1 < ls.length)
                    have hbr : bkR ls (M1 + 1) = lnR l M1 := by unfold bkR; rw [if_neg (by omega), show M1 + 1 - 1 = M1 by omega, hgd]
                    obtain ⟨⟨rl, rk, rkey, rval⟩, hr⟩ : ∃ r, lnR l M1 = r := ⟨_, rfl⟩
                    have HREC := hd (record_is l M1 · hks9 hvs9 (by omega))
                    simp only [hr, show rv (⟨rl, rk, rkey, rval⟩ : Rec) = #[.int .u64 (rl : Int), .int .i64 rk, .string rkey, .string rval] from rfl] at HREC
                    rw [hbr, hr] at hx2
                    have hcell : ∀ w', Below wi.heap.size wi w' → ∀ jj u, ([.int .u64 (rl : Int), .int .i64 rk, .string rkey, .string rval] : List Value)[jj]? = some u → w'.cell? ⟨gd, kk * 16 + 1 + jj, none⟩ = some u := by
                      intro w' hb jj u hu
                      have h1 := (hrow.keepAll hb).at kk (lcv xx) (jj + 1) u (by rw [List.getElem?_map, hx1]; rfl) (by unfold lcv; rw [hx2]; match jj, hu with
                        | 0, hu => exact hu
                        | 1, hu => exact hu
                        | 2, hu => exact hu
                        | 3, hu => exact hu
                        | jj + 4, hu => simp at hu)
                      rw [show kk * 16 + 1 + jj = kk * 16 + (jj + 1) by omega]
                      exact h1
                    have hlbw : lb < wi.heap.size := lt_of_cell d0
                    have hr0 : ∀ w', Below wi.heap.size wi w' → w'.rangeAt gd (kk * 16 + 1) [.int .u64 (rl : Int), .int .i64 rk, .string rkey, .string rval] := fun w' hb jj u hu => hcell w' hb jj u hu
                    have hl0 : ∀ w', Below wi.heap.size wi w' → w'.rangeAt lb (off + M1 * 4) [.string l.key, .string l.val, .bool l.gone, .bool l.syn] := by
                      intro w' hb jj u hu
                      rw [hb.cell (p := ⟨lb, off + M1 * 4 + jj, none⟩) hlbw]
                      match jj, hu with
                      | 0, hu => injection hu with hu; rw [← hu]; exact d0
                      | 1, hu => injection hu with hu; rw [← hu]; exact d1
                      | 2, hu => injection hu with hu; rw [← hu]; exact d2
                      | 3, hu => injection hu with hu; rw [← hu]; exact d3
                      | jj + 4, hu => simp at hu
                    have hne : ∀ ww, (binOp .neq 38 (.agg #[.int .u64 (rl : Int), .int .i64 rk, .string rkey, .string rval]) (.agg #[.int .u64 (rl : Int), .int .i64 rk, .string rkey, .string rval])).run Tryz.prog ww = .ok (.bool false) ww := fun ww => by simp [go_sem, Op.eqFields]
                    have hMl : M1 < ls.length := by omega
                    have hMk : M1 + 1 ≤ k := by omega
                    clear hrow hcell hlk hgd hbr hx1 hx2 hx3 hr d0 d1 d2 d3
                    go_wp2_with fail
                    refine region_skip (fun i9 v9 _ => match i9 with
                        | 0 => v9 = Value.int IntKind.i64 ((M1 + 1 : Nat) : Int)
                        | 1 => v9 = .bool true
                        | 2 => v9 = .bool true
                        | 3 => v9 = Value.int IntKind.i64 ((M1 + 1 : Nat) : Int)
                        | 4 => v9 = Value.slice ua k uc
                        | 5 => v9 = .int .i64 ((k : Nat) : Int)
                        | 6 => v9 = .bool false
                        | 7 => v9 = .bool false
                        | 8 => v9 = Value.slice (some { block := gd, off := 0 }) s.length dc
                        | 9 => v9 = Value.int IntKind.i64 ((kk : Nat) : Int)
                        | 10 => v9 = .pointer (some ⟨gd, kk * 16, none⟩)
                        | 11 => v9 = .pointer (some ⟨gd, kk * 16, none⟩)
                        | 12 => v9 = .pointer (some ⟨gd, kk * 16 + 1, none⟩)
                        | 13 => v9 = .agg #[.int .u64 (rl : Int), .int .i64 rk, .string rkey, .string rval]
                        | 14 => v9 = Value.slice (some { block := lb, off := off }) ls.length c
                        | 15 => v9 = Value.int IntKind.i64 ((M1 + 1 : Nat) : Int)
                        | 16 => v9 = .int .i64 ((M1 : Nat) : Int)
                        | 17 => v9 = .pointer (some ⟨lb, off + M1 * 4, none⟩)
                        | 18 => v9 = .agg #[.string l.key, .string l.val, .bool l.gone, .bool l.syn]
                        | 19 => v9 = Value.int IntKind.i64 ((M1 + 1 : Nat) : Int)
                        | 20 => v9 = .int .i64 ((M1 : Nat) : Int)
                        | 21 => v9 = .agg #[.int .u64 (rl : Int), .int .i64 rk, .string rkey, .string rval]
                        | 22 => v9 = .bool false
                        | 23 => v9 = .bool false
                        | _ => v9 = .bool false) (fun w => Below wi.heap.size wi w) hmx (by kernel_rfl) (by kernel_rfl) ((Below.refl _ _).drew) ?_ ?_ ?_
                    · as_aux_lemma =>
                        intro i9 v9 w8 w9 _ _ hb hG
                        match i9, hG with
                        | 0, h => exact h
                        | 1, h => exact h
                        | 2, h => exact h
                        | 3, h => exact h
                        | 4, h => exact h
                        | 5, h => exact h
                        | 6, h => exact h
                        | 7, h => exact h
                        | 8, h => exact h
                        | 9, h => exact h
                        | 10, h => exact h
                        | 11, h => exact h
                        | 12, h => exact h
                        | 13, h => exact h
                        | 14, h => exact h
                        | 15, h => exact h
                        | 16, h => exact h
                        | 17, h => exact h
                        | 18, h => exact h
                        | 19, h => exact h
                        | 20, h => exact h
                        | 21, h => exact h
                        | 22, h => exact h
                        | 23, h => exact h
                        | n + 24, h => exact h
                    · as_aux_lemma =>
                        intro i9 o9 ho a9 w9 hW hdf hsz hout haf
                        have ee2 := getq (show a9.tmps.getD 2 undef = Value.slice (some { block := lb, off := off }) ls.length c from hout 2 (notDst_spec (by kernel_rfl)))
                        have ee13 := getq (show a9.tmps.getD 13 undef = Value.slice ua k uc from hout 13 (notDst_spec (by kernel_rfl)))
                        have ee19 := getq (show a9.tmps.getD 19 undef = Value.int IntKind.i64 ((M1 + 1 : Nat) : Int) from hout 19 (notDst_spec (by kernel_rfl)))
                        have ee22 := getq (show a9.tmps.getD 22 undef = Value.slice (some { block := gd, off := 0 }) s.length dc from hout 22 (notDst_spec (by kernel_rfl)))
                        have ee24 := getq (show a9.tmps.getD 24 undef = Value.int IntKind.i64 ((kk : Nat) : Int) from hout 24 (notDst_spec (by kernel_rfl)))
                        have hsz2 : a9.tmps.size = 180 := hsz
                        clear hout hsz hdf
                        match i9, ho, haf with
                        | 0, ho, haf =>
                          obtain rfl := Option.some.inj ho
                          refine skip_good _ (wanted_none rfl) ?_
                          clear haf ho hsz2
                          intro K hK
                          simp only [List.getElem_toArray, List.getElem_cons_zero] at hK ⊢
                          go_simp
                          exact hK _ _ ⟨Below.refl _ _, hW, rfl⟩
                        | 1, ho, haf =>
                          obtain rfl := Option.some.inj ho
                          have f0 := getq (show a9.tmps.getD 148 undef = Value.int IntKind.i64 ((M1 + 1 : Nat) : Int) from haf ⟨0, .data⟩ (by simp) rfl)
                          refine skip_good _ (wanted_none rfl) ?_
                          clear haf ho hsz2
                          intro K hK
                          simp only [List.getElem_toArray, List.getElem_cons_succ, List.getElem_cons_zero] at hK ⊢
                          go_simp
                          exact hK _ _ ⟨Below.refl _ _, hW, (by first | rfl | (simp only [Value.bool.injEq, decide_eq_false_iff_not]; omega) | (simp only [Value.bool.injEq, decide_eq_true_eq]; omega) | (simp; done) | (simp; omega))⟩
                        | 2, ho, haf =>
                          obtain rfl := Option.some.inj ho
                          have f1 := getq (show a9.tmps.getD 149 undef = .bool true from haf ⟨1, .data⟩ (by simp) rfl)
                          refine skip_good _ (wanted_none rfl) ?_
                          clear haf ho hsz2
                          intro K hK
                          simp only [List.getElem_toArray, List.getElem_cons_succ, List.getElem_cons_zero] at hK ⊢
                          go_simp
                          exact hK _ _ ⟨Below.refl _ _, hW, rfl⟩
                        | 3, ho, haf =>
                          obtain rfl := Option.some.inj ho
                          have gg : a9.tmps.getD 150 undef = .bool true := haf ⟨2, .guard⟩ (by simp) rfl
                          refine skip_good _ (wanted_some rfl (yielded_of (d := 150) rfl (by omega) gg)) ?_
                          clear haf ho hsz2 gg
                          intro K hK
                          simp only [List.getElem_toArray, List.getElem_cons_succ, List.getElem_cons_zero] at hK ⊢
                          go_simp
                          exact hK _ _ ⟨Below.refl _ _, hW, rfl⟩
                        | 4, ho, haf =>
                          obtain rfl := Option.some.inj ho
                          have gg : a9.tmps.getD 150 undef = .bool true := haf ⟨2, .guard⟩ (by simp) rfl
                          refine skip_good _ (wanted_some rfl (yielded_of (d := 150) rfl (by omega) gg)) ?_
                          clear haf ho hsz2 gg
                          intro K hK
                          simp only [List.getElem_toArray, List.getElem_cons_succ, List.getElem_cons_zero] at hK ⊢
                          go_simp
                          exact hK _ _ ⟨Below.refl _ _, hW, rfl⟩
                        | 5, ho, haf =>
                          obtain rfl := Option.some.inj ho
                          have gg : a9.tmps.getD 150 undef = .bool true := haf ⟨2, .guard⟩ (by simp) rfl
                          have f4 := getq (show a9.tmps.getD 152 undef = Value.slice ua k uc from haf ⟨4, .data⟩ (by simp) rfl)
                          refine skip_good _ (wanted_some rfl (yielded_of (d := 150) rfl (by omega) gg)) ?_
                          clear haf ho hsz2 gg
                          intro K hK
                          simp only [List.getElem_toArray, List.getElem_cons_succ, List.getElem_cons_zero] at hK ⊢
                          go_simp
                          exact hK _ _ ⟨Below.refl _ _, hW, rfl⟩
                        | 6, ho, haf =>
                          obtain rfl := Option.some.inj ho
                          have gg : a9.tmps.getD 150 undef = .bool true := haf ⟨2, .guard⟩ (by simp) rfl
                          have f3 := getq (show a9.tmps.getD 151 undef = Value.int IntKind.i64 ((M1 + 1 : Nat) : Int) from haf ⟨3, .data⟩ (by simp) rfl)
                          have f5 := getq (show a9.tmps.getD 153 undef = .int .i64 ((k : Nat) : Int) from haf ⟨5, .data⟩ (by simp) rfl)
                          refine skip_good _ (wanted_some rfl (yielded_of (d := 150) rfl (by omega) gg)) ?_
                          clear haf ho hsz2 gg
                          intro K hK
                          simp only [List.getElem_toArray, List.getElem_cons_succ, List.getElem_cons_zero] at hK ⊢
                          go_simp
                          exact hK _ _ ⟨Below.refl _ _, hW, (by first | rfl | (simp only [Value.bool.injEq, decide_eq_false_iff_not]; omega) | (simp only [Value.bool.injEq, decide_eq_true_eq]; omega) | (simp; done) | (simp; omega))⟩
                        | 7, ho, haf =>
                          obtain rfl := Option.some.inj ho
                          have gg : a9.tmps.getD 150 undef = .bool true := haf ⟨2, .guard⟩ (by simp) rfl
                          have f6 := getq (show a9.tmps.getD 154 undef = .bool false from haf ⟨6, .data⟩ (by simp) rfl)
                          refine skip_good _ (wanted_some rfl (yielded_of (d := 150) rfl (by omega) gg)) ?_
                          clear haf ho hsz2 gg
                          intro K hK
                          simp only [List.getElem_toArray, List.getElem_cons_succ, List.getElem_cons_zero] at hK ⊢
                          go_simp
                          exact hK _ _ ⟨Below.refl _ _, hW, rfl⟩
                        | 8, ho, haf =>
                          obtain rfl := Option.some.inj ho
                          have gg : a9.tmps.getD 155 undef = .bool false := haf ⟨7, .guard⟩ (by simp) rfl
                          refine skip_good _ (wanted_some rfl (yielded_of (d := 155) rfl (by omega) gg)) ?_
                          clear haf ho hsz2 gg
                          intro K hK
                          simp only [List.getElem_toArray, List.getElem_cons_succ, List.getElem_cons_zero] at hK ⊢
                          go_simp
                          exact hK _ _ ⟨Below.refl _ _, hW, rfl⟩
                        | 9, ho, haf =>
                          obtain rfl := Option.some.inj ho
                          have gg : a9.tmps.getD 155 undef = .bool false := haf ⟨7, .guard⟩ (by simp) rfl
                          refine skip_good _ (wanted_some rfl (yielded_of (d := 155) rfl (by omega) gg)) ?_
                          clear haf ho hsz2 gg
                          intro K hK
                          simp only [List.getElem_toArray, List.getElem_cons_succ, List.getElem_cons_zero] at hK ⊢
                          go_simp
                          exact hK _ _ ⟨Below.refl _ _, hW, rfl⟩
                        | 10, ho, haf =>
                          obtain rfl := Option.some.inj ho
                          have gg : a9.tmps.getD 155 undef = .bool false := haf ⟨7, .guard⟩ (by simp) rfl
                          have f8 := getq (show a9.tmps.getD 156 undef = Value.slice (some { block := gd, off := 0 }) s.length dc from haf ⟨8, .data⟩ (by simp) rfl)
                          have f9 := getq (show a9.tmps.getD 157 undef = Value.int IntKind.i64 ((kk : Nat) : Int) from haf ⟨9, .data⟩ (by simp) rfl)
                          refine skip_good _ (wanted_some rfl (yielded_of (d := 155) rfl (by omega) gg)) ?_
                          clear haf ho hsz2 gg
                          intro K hK
                          simp only [List.getElem_toArray, List.getElem_cons_succ, List.getElem_cons_zero] at hK ⊢
                          go_simp
                          exact hK _ _ ⟨Below.refl _ _, hW, rfl⟩
                        | 11, ho, haf =>
                          obtain rfl := Option.some.inj ho
                          have gg : a9.tmps.getD 155 undef = .bool false := haf ⟨7, .guard⟩ (by simp) rfl
                          have f10 := getq (show a9.tmps.getD 158 undef = .pointer (some ⟨gd, kk * 16, none⟩) from haf ⟨10, .data⟩ (by simp) rfl)
                          refine skip_good _ (wanted_some rfl (yielded_of (d := 155) rfl (by omega) gg)) ?_
                          clear haf ho hsz2 gg
                          intro K hK
                          simp only [List.getElem_toArray, List.getElem_cons_succ, List.getElem_cons_zero] at hK ⊢
                          go_simp
                          exact hK _ _ ⟨Below.refl _ _, hW, rfl⟩
                        | 12, ho, haf =>
                          obtain rfl := Option.some.inj ho
                          have gg : a9.tmps.getD 155 undef = .bool false := haf ⟨7, .guard⟩ (by simp) rfl
                          have f11 := getq (show a9.tmps.getD 159 undef = .pointer (some ⟨gd, kk * 16, none⟩) from haf ⟨11, .data⟩ (by simp) rfl)
                          refine skip_good _ (wanted_some rfl (yielded_of (d := 155) rfl (by omega) gg)) ?_
                          clear haf ho hsz2 gg
                          intro K hK
                          simp only [List.getElem_toArray, List.getElem_cons_succ, List.getElem_cons_zero] at hK ⊢
                          go_simp
                          exact hK _ _ ⟨Below.refl _ _, hW, rfl⟩
                        | 13, ho, haf =>
                          obtain rfl := Option.some.inj ho
                          have gg : a9.tmps.getD 155 undef = .bool false := haf ⟨7, .guard⟩ (by simp) rfl
                          have f12 := getq (show a9.tmps.getD 160 undef = .pointer (some ⟨gd, kk * 16 + 1, none⟩) from haf ⟨12, .data⟩ (by simp) rfl)
                          refine skip_good _ (wanted_some rfl (yielded_of (d := 155) rfl (by omega) gg)) ?_
                          have hx0 : a9.eval (Operand.tmp 160) = .pointer (some ⟨gd, kk * 16 + 1, none⟩) := haf ⟨12, .data⟩ (by simp) rfl
                          clear haf ho hsz2 gg
                          intro K hK
                          simp only [List.getElem_toArray, List.getElem_cons_succ, List.getElem_cons_zero] at hK ⊢
                          exact wp_load_mid 38 _ rfl gd (kk * 16 + 1) hx0 [.int .u64 (rl : Int), .int .i64 rk, .string rkey, .string rval] _ (hr0 w9 hW) Tryz.underlying38 rfl (by kernel_rfl) (hK _ _ ⟨Below.refl _ _, hW, rfl⟩)
                        | 14, ho, haf =>
                          obtain rfl := Option.some.inj ho
                          have gg : a9.tmps.getD 155 undef = .bool false := haf ⟨7, .guard⟩ (by simp) rfl
                          refine skip_good _ (wanted_some rfl (yielded_of (d := 155) rfl (by omega) gg)) ?_
                          clear haf ho hsz2 gg
                          intro K hK
                          simp only [List.getElem_toArray, List.getElem_cons_succ, List.getElem_cons_zero] at hK ⊢
                          go_simp
                          exact hK _ _ ⟨Below.refl _ _, hW, rfl⟩
                        | 15, ho, haf =>
                          obtain rfl := Option.some.inj ho
                          have gg : a9.tmps.getD 155 undef = .bool false := haf ⟨7, .guard⟩ (by simp) rfl
                          refine skip_good _ (wanted_some rfl (yielded_of (d := 155) rfl (by omega) gg)) ?_
                          clear haf ho hsz2 gg
                          intro K hK
                          simp only [List.getElem_toArray, List.getElem_cons_succ, List.getElem_cons_zero] at hK ⊢
                          go_simp
                          exact hK _ _ ⟨Below.refl _ _, hW, rfl⟩
                        | 16, ho, haf =>
                          obtain rfl := Option.some.inj ho
                          have gg : a9.tmps.getD 155 undef = .bool false := haf ⟨7, .guard⟩ (by simp) rfl
                          have f15 := getq (show a9.tmps.getD 163 undef = Value.int IntKind.i64 ((M1 + 1 : Nat) : Int) from haf ⟨15, .data⟩ (by simp) rfl)
                          refine skip_good _ (wanted_some rfl (yielded_of (d := 155) rfl (by omega) gg)) ?_
                          clear haf ho hsz2 gg
                          intro K hK
                          simp only [List.getElem_toArray, List.getElem_cons_succ, List.getElem_cons_zero] at hK ⊢
                          go_simp
                          exact hK _ _ ⟨Below.refl _ _, hW, (by first | rfl | (congr 1; rw [IntKind.wrap_i64]; omega))⟩
                        | 17, ho, haf =>
                          obtain rfl := Option.some.inj ho
                          have gg : a9.tmps.getD 155 undef = .bool false := haf ⟨7, .guard⟩ (by simp) rfl
                          have f14 := getq (show a9.tmps.getD 162 undef = Value.slice (some { block := lb, off := off }) ls.length c from haf ⟨14, .data⟩ (by simp) rfl)
                          have f16 := getq (show a9.tmps.getD 164 undef = .int .i64 ((M1 : Nat) : Int) from haf ⟨16, .data⟩ (by simp) rfl)
                          refine skip_good _ (wanted_some rfl (yielded_of (d := 155) rfl (by omega) gg)) ?_
                          clear haf ho hsz2 gg
                          intro K hK
                          simp only [List.getElem_toArray, List.getElem_cons_succ, List.getElem_cons_zero] at hK ⊢
                          go_simp
                          exact hK _ _ ⟨Below.refl _ _, hW, rfl⟩
                        | 18, ho, haf =>
                          obtain rfl := Option.some.inj ho
                          have gg : a9.tmps.getD 155 undef = .bool false := haf ⟨7, .guard⟩ (by simp) rfl
                          have f17 := getq (show a9.tmps.getD 165 undef = .pointer (some ⟨lb, off + M1 * 4, none⟩) from haf ⟨17, .data⟩ (by simp) rfl)
                          refine skip_good _ (wanted_some rfl (yielded_of (d := 155) rfl (by omega) gg)) ?_
                          have hx0 : a9.eval (Operand.tmp 165) = .pointer (some ⟨lb, off + M1 * 4, none⟩) := haf ⟨17, .data⟩ (by simp) rfl
                          clear haf ho hsz2 gg
                          intro K hK
                          simp only [List.getElem_toArray, List.getElem_cons_succ, List.getElem_cons_zero] at hK ⊢
                          exact wp_load_mid 40 _ rfl lb (off + M1 * 4) hx0 [.string l.key, .string l.val, .bool l.gone, .bool l.syn] _ (hl0 w9 hW) Tryz.underlying40 rfl (by kernel_rfl) (hK _ _ ⟨Below.refl _ _, hW, rfl⟩)
                        | 19, ho, haf =>
                          obtain rfl := Option.some.inj ho
                          have gg : a9.tmps.getD 155 undef = .bool false := haf ⟨7, .guard⟩ (by simp) rfl
                          refine skip_good _ (wanted_some rfl (yielded_of (d := 155) rfl (by omega) gg)) ?_
                          clear haf ho hsz2 gg
                          intro K hK
                          simp only [List.getElem_toArray, List.getElem_cons_succ, List.getElem_cons_zero] at hK ⊢
                          go_simp
                          exact hK _ _ ⟨Below.refl _ _, hW, rfl⟩
                        | 20, ho, haf =>
                          obtain rfl := Option.some.inj ho
                          have gg : a9.tmps.getD 155 undef = .bool false := haf ⟨7, .guard⟩ (by simp) rfl
                          have f19 := getq (show a9.tmps.getD 167 undef = Value.int IntKind.i64 ((M1 + 1 : Nat) : Int) from haf ⟨19, .data⟩ (by simp) rfl)
                          refine skip_good _ (wanted_some rfl (yielded_of (d := 155) rfl (by omega) gg)) ?_
                          clear haf ho hsz2 gg
                          intro K hK
                          simp only [List.getElem_toArray, List.getElem_cons_succ, List.getElem_cons_zero] at hK ⊢
                          go_simp
                          exact hK _ _ ⟨Below.refl _ _, hW, (by first | rfl | (congr 1; rw [IntKind.wrap_i64]; omega))⟩
                        | 21, ho, haf =>
                          obtain rfl := Option.some.inj ho
                          have gg : a9.tmps.getD 155 undef = .bool false := haf ⟨7, .guard⟩ (by simp) rfl
                          have f18 := getq (show a9.tmps.getD 166 undef = .agg #[.string l.key, .string l.val, .bool l.gone, .bool l.syn] from haf ⟨18, .data⟩ (by simp) rfl)
                          have f20 := getq (show a9.tmps.getD 168 undef = .int .i64 ((M1 : Nat) : Int) from haf ⟨20, .data⟩ (by simp) rfl)
                          refine skip_good _ (wanted_some rfl (yielded_of (d := 155) rfl (by omega) gg)) ?_
                          clear haf ho hsz2 gg
                          intro K hK
                          simp only [List.getElem_toArray, List.getElem_cons_succ, List.getElem_cons_zero] at hK ⊢
                          go_simp
                          refine Calls.mono (HREC.out w9) ?_
                          rintro e9 w8 ⟨rfl, hb9⟩
                          exact hK _ _ ⟨hb9, hW.trans (hb9.mono hW.size), rfl⟩
                        | 22, ho, haf =>
                          obtain rfl := Option.some.inj ho
                          have gg : a9.tmps.getD 155 undef = .bool false := haf ⟨7, .guard⟩ (by simp) rfl
                          have f13 := getq (show a9.tmps.getD 161 undef = .agg #[.int .u64 (rl : Int), .int .i64 rk, .string rkey, .string rval] from haf ⟨13, .data⟩ (by simp) rfl)
                          have f21 := getq (show a9.tmps.getD 169 undef = .agg #[.int .u64 (rl : Int), .int .i64 rk, .string rkey, .string rval] from haf ⟨21, .data⟩ (by simp) rfl)
                          refine skip_good _ (wanted_some rfl (yielded_of (d := 155) rfl (by omega) gg)) ?_
                          clear haf ho hsz2 gg
                          intro K hK
                          simp only [List.getElem_toArray, List.getElem_cons_succ, List.getElem_cons_zero] at hK ⊢
                          go_simp
                          exact hK _ _ ⟨Below.refl _ _, hW, rfl⟩
                        | 23, ho, haf =>
                          obtain rfl := Option.some.inj ho
                          have gg : a9.tmps.getD 150 undef = .bool true := haf ⟨2, .guard⟩ (by simp) rfl
                          have f7 := getq (show a9.tmps.getD 155 undef = .bool false from haf ⟨7, .data⟩ (by simp) rfl)
                          have f22 := getq (show a9.tmps.getD 170 undef = .bool false from haf ⟨22, .data⟩ (by simp) rfl)
                          refine skip_good _ (wanted_some rfl (yielded_of (d := 150) rfl (by omega) gg)) ?_
                          clear haf ho hsz2 gg
                          intro K hK
                          simp only [List.getElem_toArray, List.getElem_cons_succ, List.getElem_cons_zero] at hK ⊢
                          go_simp
                          exact hK _ _ ⟨Below.refl _ _, hW, rfl⟩
                        | 24, ho, haf =>
                          obtain rfl := Option.some.inj ho
                          have f2 := getq (show a9.tmps.getD 150 undef = .bool true from haf ⟨2, .data⟩ (by simp) rfl)
                          have f23 := getq (show a9.tmps.getD 171 undef = .bool false from haf ⟨23, .data⟩ (by simp) rfl)
                          refine skip_good _ (wanted_none rfl) ?_
                          clear haf ho hsz2
                          intro K hK
                          simp only [List.getElem_toArray, List.getElem_cons_succ, List.getElem_cons_zero] at hK ⊢
                          go_simp
                          exact hK _ _ ⟨Below.refl _ _, hW, rfl⟩
                        | n + 25, ho, haf => simp at ho
                    · as_aux_lemma =>
                        intro aa w9 hW hdf hsz hout hall
                        have hat : aa.tmps = #[Value.int IntKind.i64 lim, Value.int IntKind.i64 evy, Value.slice (some { block := lb, off := off }) ls.length c, undef, undef, undef, u6, Value.pointer (some { block := d, off := 0 }), Value.pointer (some { block := b, off := 0 }), Value.pointer (some { block := w2.heap.size, off := 0 }), Value.int IntKind.i64 0, Value.pointer (some { block := w4.heap.size, off := 0 }), Value.int IntKind.i64 0, Value.slice ua k uc, Value.bool true, Value.int IntKind.i64 ((k : Nat) : Int), u16, u17, Value.slice (some { block := g, off := 0 }) m fc, Value.int IntKind.i64 ((M1 + 1 : Nat) : Int), Value.int IntKind.i64 ((j : Nat) : Int), Value.slice ca D.length cc, Value.slice (some { block := gd, off := 0 }) s.length dc, Value.pointer (some { block := we.heap.size, off := 0 }), Value.int IntKind.i64 ((kk : Nat) : Int), Value.tuple #[Value.pointer (some { block := d, off := 0 }), Value.pointer (some { block := b, off := 0 })], Value.int IntKind.i64 lim, Value.int IntKind.i64 evy, Value.tuple #[Value.pointer (some { block := d, off := 0 }), Value.pointer (some { block := b, off := 0 })], Value.pointer (some { block := d, off := 0 }), Value.pointer (some { block := b, off := 0 }), Value.pointer (some { block := d, off := 0 }), Value.bool false, Value.tuple #[Value.agg #[Value.int IntKind.u32 ((p1 : Nat) : Int), Value.int IntKind.i64 ((p2 : Nat) : Int), Value.int IntKind.i64 ((p3 : Nat) : Int)], Value.int IntKind.i64 0], Value.pointer (some { block := b, off := 0 }), Value.agg #[Value.int IntKind.u64 1, Value.int IntKind.i64 1, Value.string { data := #[102, 105, 114, 115, 116] }, Value.string { data := #[] }], Value.tuple #[Value.agg #[Value.int IntKind.u32 ((p1 : Nat) : Int), Value.int IntKind.i64 ((p2 : Nat) : Int), Value.int IntKind.i64 ((p3 : Nat) : Int)], Value.int IntKind.i64 0], Value.agg #[Value.int IntKind.u32 ((p1 : Nat) : Int), Value.int IntKind.i64 ((p2 : Nat) : Int), Value.int IntKind.i64 ((p3 : Nat) : Int)], Value.int IntKind.i64 0, Value.tuple #[Value.agg #[Value.int IntKind.u64 1, Value.int IntKind.i64 1, Value.string { data := #[102, 105, 114, 115, 116] }, Value.string { data := #[] }], Value.int IntKind.i64 0], Value.pointer (some { block := d, off := 0 }), Value.agg #[Value.int IntKind.u32 ((p1 : Nat) : Int), Value.int IntKind.i64 ((p2 : Nat) : Int), Value.int IntKind.i64 ((p3 : Nat) : Int)], Value.tuple #[Value.agg #[Value.int IntKind.u64 1, Value.int IntKind.i64 1, Value.string { data := #[102, 105, 114, 115, 116] }, Value.string { data := #[] }], Value.int IntKind.i64 0], Value.agg #[Value.int IntKind.u64 1, Value.int IntKind.i64 1, Value.string { data := #[102, 105, 114, 115, 116] }, Value.string { data := #[] }], Value.int IntKind.i64 0, Value.int IntKind.i64 0, Value.bool false, Value.bool false, Value.int IntKind.i64 0, Value.bool false, Value.bool false, Value.bool false, Value.pointer (some { block := w4.heap.size, off := 2 }), Value.string { data := #[102, 105, 114, 115, 116] }, Value.bool false, Value.bool false, Value.tuple #[Value.slice ua k uc, Value.bool true], Value.pointer (some { block := b, off := 0 }), Value.slice (some { block := lb, off := off }) ls.length c, Value.tuple #[Value.slice ua k uc, Value.bool true], Value.slice ua k uc, Value.bool true, Value.bool true, Value.bool false, Value.int IntKind.i64 ((k : Nat) : Int), Value.slice ua k uc, Value.int IntKind.i64 ((k : Nat) : Int), Value.bool false, u68, u69, u70, u71, u72, u73, u74, u75, u76, u77, u78, u79, u80, u81, u82, u83, u84, u85, u86, u87, u88, u89, u90, Value.pointer (some { block := d, off := 0 }), Value.slice (some { block := g, off := 0 }) m fc, Value.int IntKind.i64 ((j : Nat) : Int), Value.slice (some { block := g, off := 0 }) m fc, Value.int IntKind.i64 ((m : Nat) : Int), Value.bool true, u97, u98, Value.slice (some { block := g, off := 0 }) m fc, Value.int IntKind.i64 ((j : Nat) : Int), Value.pointer (some { block := g, off := j * 2 }), Value.pointer (some { block := g, off := j * 2 + 1 }), Value.slice ua9 D.length uc9, Value.slice ca D.length cc, Value.slice ca D.length cc, Value.string (str D), Value.slice (some { block := g, off := 0 }) m fc, Value.int IntKind.i64 ((j : Nat) : Int), Value.pointer (some { block := g, off := j * 2 }), Value.pointer (some { block := g, off := j * 2 + 1 }), Value.slice ua9 D.length uc9, Value.string (str D), Value.bool false, Value.slice (some { block := g, off := 0 }) m fc, Value.int IntKind.i64 ((j : Nat) : Int), Value.pointer (some { block := g, off := j * 2 }), Value.pointer (some { block := g, off := j * 2 + 1 }), Value.slice ua9 D.length uc9, Value.slice (some { block := gd, off := 0 }) s.length dc, Value.slice (some { block := g, off := 0 }) m fc, Value.int IntKind.i64 ((j : Nat) : Int), Value.pointer (some { block := g, off := j * 2 }), Value.pointer (some { block := g, off := j * 2 + 1 }), Value.slice ua9 D.length uc9, Value.agg #[Value.int IntKind.i64 ((D.length : Nat) : Int), Value.int IntKind.i64 ((s.length : Nat) : Int), Value.int IntKind.u32 ((cr : Nat) : Int)], Value.pointer (some { block := we.heap.size, off := 1 }), Value.int IntKind.i64 ((s.length : Nat) : Int), Value.slice (some { block := gd, off := 0 }) s.length dc, Value.int IntKind.i64 ((s.length : Nat) : Int), Value.bool false, Value.bool false, Value.pointer (some { block := we.heap.size, off := 0 }), Value.int IntKind.i64 ((D.length : Nat) : Int), Value.slice (some { block := g, off := 0 }) m fc, Value.int IntKind.i64 ((j : Nat) : Int), Value.pointer (some { block := g, off := j * 2 }), Value.pointer (some { block := g, off := j * 2 + 1 }), Value.slice ua9 D.length uc9, Value.int IntKind.i64 ((D.length : Nat) : Int), Value.bool false, Value.bool false, Value.int IntKind.i64 ((kk : Nat) : Int), Value.slice (some { block := gd, off := 0 }) s.length dc, Value.int IntKind.i64 ((s.length : Nat) : Int), Value.bool true, u146, u147, Value.int IntKind.i64 ((M1 + 1 : Nat) : Int), .bool true, .bool true, Value.int IntKind.i64 ((M1 + 1 : Nat) : Int), Value.slice ua k uc, .int .i64 ((k : Nat) : Int), .bool false, .bool false, Value.slice (some { block := gd, off := 0 }) s.length dc, Value.int IntKind.i64 ((kk : Nat) : Int), .pointer (some ⟨gd, kk * 16, none⟩), .pointer (some ⟨gd, kk * 16, none⟩), .pointer (some ⟨gd, kk * 16 + 1, none⟩), .agg #[.int .u64 (rl : Int), .int .i64 rk, .string rkey, .string rval], Value.slice (some { block := lb, off := off }) ls.length c, Value.int IntKind.i64 ((M1 + 1 : Nat) : Int), .int .i64 ((M1 : Nat) : Int), .pointer (some ⟨lb, off + M1 * 4, none⟩), .agg #[.string l.key, .string l.val, .bool l.gone, .bool l.syn], Value.int IntKind.i64 ((M1 + 1 : Nat) : Int), .int .i64 ((M1 : Nat) : Int), .agg #[.int .u64 (rl : Int), .int .i64 rk, .string rkey, .string rval], .bool false, .bool false, .bool false, u173, u174, undef, undef, undef, undef, undef] := by
                          refine (tmps_of (lo := 148) (vs := [Value.int IntKind.i64 ((M1 + 1 : Nat) : Int), .bool true, .bool true, Value.int IntKind.i64 ((M1 + 1 : Nat) : Int), Value.slice ua k uc, .int .i64 ((k : Nat) : Int), .bool false, .bool false, Value.slice (some { block := gd, off := 0 }) s.length dc, Value.int IntKind.i64 ((kk : Nat) : Int), .pointer (some ⟨gd, kk * 16, none⟩), .pointer (some ⟨gd, kk * 16, none⟩), .pointer (some ⟨gd, kk * 16 + 1, none⟩), .agg #[.int .u64 (rl : Int), .int .i64 rk, .string rkey, .string rval], Value.slice (some { block := lb, off := off }) ls.length c, Value.int IntKind.i64 ((M1 + 1 : Nat) : Int), .int .i64 ((M1 : Nat) : Int), .pointer (some ⟨lb, off + M1 * 4, none⟩), .agg #[.string l.key, .string l.val, .bool l.gone, .bool l.syn], Value.int IntKind.i64 ((M1 + 1 : Nat) : Int), .int .i64 ((M1 : Nat) : Int), .agg #[.int .u64 (rl : Int), .int .i64 rk, .string rkey, .string rval], .bool false, .bool false, .bool false]) hsz (by kernel_rfl) (Nat.le_of_ble_eq_true (by kernel_rfl)) hout (fun i hi => ?_)).trans ?_
                          · match i, hi with
                            | 0, _ => exact hall 0 (by decide)
                            | 1, _ => exact hall 1 (by decide)
                            | 2, _ => exact hall 2 (by decide)
                            | 3, _ => exact hall 3 (by decide)
                            | 4, _ => exact hall 4 (by decide)
                            | 5, _ => exact hall 5 (by decide)
                            | 6, _ => exact hall 6 (by decide)
                            | 7, _ => exact hall 7 (by decide)
                            | 8, _ => exact hall 8 (by decide)
                            | 9, _ => exact hall 9 (by decide)
                            | 10, _ => exact hall 10 (by decide)
                            | 11, _ => exact hall 11 (by decide)
                            | 12, _ => exact hall 12 (by decide)
                            | 13, _ => exact hall 13 (by decide)
                            | 14, _ => exact hall 14 (by decide)
                            | 15, _ => exact hall 15 (by decide)
                            | 16, _ => exact hall 16 (by decide)
                            | 17, _ => exact hall 17 (by decide)
                            | 18, _ => exact hall 18 (by decide)
                            | 19, _ => exact hall 19 (by decide)
                            | 20, _ => exact hall 20 (by decide)
                            | 21, _ => exact hall 21 (by decide)
                            | 22, _ => exact hall 22 (by decide)
                            | 23, _ => exact hall 23 (by decide)
                            | 24, _ => exact hall 24 (by decide)
                            | n + 25, h => exact absurd h (by simp)
                          · rfl
                        obtain ⟨tt, dd⟩ := aa
                        simp only at hat hdf
                        subst hat hdf
                        clear hsz hout hall
                        have HWF := hd (HBI.out.trans (hW.mono hsi))
                        clear hW
                        go_wp2_with fail
                        go_roundw
                        case rel => exact ⟨kk + 1, M1 + 1 + 1, HKS.out, by have := HMM.out; omega, by go_num, by go_num, HWF.out⟩
                        case measure => have := HKS.out; simp [intOf]; omega
                · have hki : ¬ ((kk : Nat) : Int) < (s.length : Int) := by omega
                  have e9 : M = (segs.take (j + 1)).flatten.length := by rw [← HN0.out, hM]; omega
                  clear hkk hks hM
                  go_wp2_with fail
                  exact ⟨⟨j + 1, HJT.out, by go_num, by rw [e9], HBP.out.trans (HBI.out.mono (by omega))⟩, by have := HJT.out; simp [intOf]; omega⟩
        · have hji : ¬ ((j : Nat) : Int) < (m : Int) := by omega
          obtain rfl : j = m := by omega
          have hall : N0 = k + 1 := by rw [hN0, HM.out, take_all HFL.out]; omega
          subst hall
          clear hj hjt hN0
          go_wp2_with fail
          go_ret
          exact ⟨rfl, HB8.out.trans (HBB.out.mono (by omega))⟩
end Sg
end Go.Proofs.YtolddolfpnkndaaGreat
