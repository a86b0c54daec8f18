/-
  TopWritten's walk: what is written is read, and a crash leaves a beginning of it, with all that was synced.
-/
import Derived.Test.YtolddolfpnkndaaGreatXtbt
import Derived.Test.YtolddolfpnkndaaGreatXtby
import Derived.Test.YtolddolfpnkndaaGreatXtbz
import Derived.Test.YtolddolfpnkndaaGreatXtar
import Derived.Test.YtolddolfpnkndaaGreatXtca
import Derived.Deep.MidRow
namespace Go.Proofs.YtolddolfpnkndaaGreat
open Go.RowKit Go.Maps Go.Sort Go.ChangeShapes Go.WideShapes Go.ChangeAt Go.Shelf
namespace Sg
open Vt Dk
theorem lastS_lst (l : List Rw4) : ∀ k, lastS l k = lst (twS l) k
  | 0 => rfl
  | k + 1 => by unfold lastS lst; rw [lastS_lst l k]
/-- a disk that is only read -/
def Rq (O : Nat → Prop) (d : Nat) (w0 : World) (S0 : Ds) (k : Nat) (wq : World) : Prop := ∃ S, DK wq d O S ∧ S.fs = S0.fs ∧ Nf S ∧ S.acts = S0.acts + k ∧ Tr O w0 wq
theorem twR_eq (l : List Rw4) (k : Nat) {x : Rw4} (h : l.getD k zw = x) : twR l k = rcQ x.k x.y x.v (k + 1) := by unfold twR; rw [h]
theorem row_cap {E : TypeId} {sz : Nat} {w : World} {base n c : Nat} {a : Option Addr} {l : List (List Value)} (h : JR E sz w base (.slice a n c) l) : c ≤ maxLen := by
  obtain ⟨_, _, ⟨e, _⟩ | ⟨_, _, _, e, _, _, _, hm, _⟩⟩ := h
  · injection e with _ _ e; rw [e]; exact Nat.zero_le _
  · injection e with _ _ e; rw [e]; exact hm
set_option pp.maxSteps 1000000 in
set_option maxRecDepth 100000 in
set_option maxHeartbeats 40000000 in
theorem topw_walk (v : Value) (l : List Rw4) (lim evy keep : Int) (w : World) (hI : IsRw w v l) (h1 : (Lit.int .i64 lim).wf = true) (h2 : (Lit.int .i64 evy).wf = true) (h3 : (Lit.int .i64 keep).wf = true) :
    Calls Tryz.prog 5 #[v, .int .i64 lim, .int .i64 evy, .int .i64 keep] w fun e w' => e = .returned (.bool true) ∧ Below w.heap.size w w' := by
  obtain ⟨a, c, rfl⟩ := hI.shape
  have hmx : Tryz.prog.follows .mixedOrders = true := by kernel_rfl
  have hlen := hI.len
  unfold maxLen at hlen
  have HI := hd hI
  have HWR := hd (twritten_is w w.heap.size (.slice a l.length c) l lim evy (Nat.le_refl _) h1 h2 ⟨w, hI, Below.refl _ _, Nat.le_refl _⟩)
  have HPK := hd (tpick_eq keep 300 · (by omega) (by omega) h3)
  clear hI h1 h2 h3
  obtain ⟨n, hn⟩ : ∃ n, n = min l.length 100 := ⟨_, rfl⟩
  rw [← hn] at HWR
  have hnl : n ≤ l.length ∧ n ≤ 100 := by omega
  clear hn
  obtain ⟨X, hX⟩ : ∃ X, X = tw0 lim evy := ⟨_, rfl⟩
  have hg0 : Gk 2097152 (64 + pkN lim 2000) (pkN evy 8) 0 X := by rw [hX]; exact tw0_ok lim evy
  have HG0 := hd hg0
  have HOK : Hid (∀ k, k ≤ 100 → Gk 2097152 (64 + pkN lim 2000) (pkN evy 8) k (gsat (twR l) (twS l) twX X k)) := gsat_ok (tw_ok l) twX_le (by omega) hg0
  have HGX : Hid (∃ segs, Gx (twR l) (twS l) twX X n segs) := gx_all (tw_ok l) twX_le (by omega) hg0 n hnl.2
  rw [← hX] at HWR
  clear hX hg0
  go_enter Tryz.func5, Tryz.ntmps5
  go_wp2_with fail
  refine Calls.mono HWR.out ?_
  rintro e w1 ⟨b, d, u, rfl, hW⟩
  have HW := hd hW
  have HB1 := hd hW.bel
  have hs1 := hW.bel.size
  obtain ⟨ls, hls⟩ : ∃ ls, ls = lastS l n := ⟨_, rfl⟩
  rw [← hls]
  have hlsn : ls ≤ n := by rw [hls]; exact lastS_le l n
  have HLS := hd hls
  obtain ⟨ua, uc, hu, huc⟩ := hW.row.shape
  rw [List.length_map, gpls_len] at hu huc
  subst hu
  clear hW hls HWR
  go_wp2_with fail
  obtain ⟨w2, hw2⟩ : ∃ w2, w2 = w1.alloc (.cells #[.int .i64 1, .int .i64 0, .int .i64 0, .int .i64 0] 75) := ⟨_, rfl⟩
  have hb2 : Below w1.heap.size w1 w2 := by rw [hw2]; exact (Below.refl _ _).alloc (Nat.le_refl _) _
  have hI2 : IsRw w2 (.slice (some ⟨w1.heap.size, 0, none⟩) 1 1) [⟨1, 0, 0, 0⟩] := by
    have hbk : Blk w2 w1.heap.size 75 [.int .i64 1, .int .i64 0, .int .i64 0, .int .i64 0] := by rw [hw2]; exact Blk.new w1 _ [.int .i64 1, .int .i64 0, .int .i64 0, .int .i64 0]
    refine ⟨fun x hx => ?_, .inr ⟨w1.heap.size, 0, 1, rfl, Nat.le_refl _, by unfold maxLen; omega, hbk.lt, fun i x hx j u hu => ?_⟩⟩
    · rw [List.mem_singleton.1 hx]; exact ⟨rfl, rfl, rfl, rfl⟩
    · match i, hx with
      | 0, hx =>
        injection hx with hx
        subst hx
        simp only [Nat.zero_mul, Nat.zero_add]
        exact hbk.cell j u hu
      | i + 1, hx => simp at hx
  have HW2 := hd (twritten_is w2 w2.heap.size _ [⟨1, 0, 0, 0⟩] 0 0 (Nat.le_refl _) rfl rfl ⟨w2, hI2, Below.refl _ _, Nat.le_refl _⟩)
  have HWB := hd (HW.out.bels hb2 hs1)
  have HB2 : Hid (Below w.heap.size w w2) := HB1.out.trans (hb2.mono hs1)
  have hs2 := hb2.size
  rw [← hw2]
  clear hw2 hb2 hI2 HW
  refine Calls.mono HW2.out ?_
  rintro e w3 ⟨b2, d2, u2, rfl, hW2⟩
  have hb3 := hW2.bel
  have hs3 := hb3.size
  have HWC := hd (HWB.out.bels hb3 (by omega))
  have HB3 : Hid (Below w.heap.size w w3) := HB2.out.trans (hb3.mono (by omega))
  obtain ⟨O3, hk3, _, _⟩ := hW2.own
  obtain ⟨S3, hS3⟩ : ∃ S3, S3 = (gsat (twR [⟨1, 0, 0, 0⟩]) (twS [⟨1, 0, 0, 0⟩]) twX (tw0 0 0) 1).2 := ⟨_, rfl⟩
  have hdk3 : DK w3 d2 O3 S3 := by rw [hS3]; exact hk3.1
  have hok3 := gsat_ok (sy := twS [⟨1, 0, 0, 0⟩]) (ex := twX) (tw_ok [⟨1, 0, 0, 0⟩]) twX_le (by omega) (tw0_ok 0 0) 1 (by omega)
  have hac3 := hok3.acts
  rw [← hS3] at hac3
  obtain ⟨g1, _, g3, _, g5, _⟩ := gcrash (sy := twS [⟨1, 0, 0, 0⟩]) (ex := twX) (tw_ok [⟨1, 0, 0, 0⟩]) twX_le (by omega) (tw0_ok 0 0) 1 (by omega) S3 (by rw [hS3]) 0
  have hrc := trecords_is w3 d2 O3 S3 hdk3 (by omega) g3 (by omega) (by rw [g1]; simp)
  rw [g1] at hrc
  have HRC := hd hrc
  clear hrc g1 g3 g5 hac3 hok3 hdk3 hS3 hk3 HW2 HWB hb3
  go_wp2_with fail
  refine Calls.mono HRC.out ?_
  rintro e w4 ⟨v4, rfl, hj4, hb4⟩
  obtain ⟨fa, fc, hv4, _⟩ := hj4.shape
  subst hv4
  simp only [List.length_map, List.length_range]
  have hs4 := hb4.size
  have HWD := hd (HWC.out.bels hb4 (by omega))
  have HB4 : Hid (Below w.heap.size w w4) := HB3.out.trans (hb4.mono (by omega))
  clear hj4 hb4 HWC HRC HB2 HB3
  go_wp2_with fail
  have hW := HWD.out
  have HROW := hd hW.row
  obtain ⟨O6, hk6, ho6, hg6⟩ := hW.own
  have HO6 := hd ho6
  have HG6 := hd hg6
  have hucm : uc ≤ maxLen := row_cap hW.row
  obtain ⟨S6, hS6⟩ : ∃ S6, S6 = (gsat (twR l) (twS l) twX X n).2 := ⟨_, rfl⟩
  obtain ⟨segs, hgx⟩ := HGX.out
  have hac6 := (HOK.out n (by omega)).acts
  have hnf6 : Nf S6 := by
    rw [hS6]
    rcases (HOK.out n (by omega)).at_ with ⟨_, q⟩ | ⟨_, _, _, _, q, _⟩
    · exact q.nf
    · exact q.nf
  have hdk6 : DK w4 d O6 S6 := by
    have h := hk6.1
    rw [Nat.zero_add] at h
    rw [hS6]; exact h
  rw [← hS6] at hac6
  have HR0 : Hid (Rq O6 d w4 S6 0 w4) := ⟨S6, hdk6, rfl, hnf6, rfl, Tr.refl _ _⟩
  have HGN := hd hgx
  have HS6 := hd hS6
  have HOL6 := hd hdk6.olt
  have hacb : S6.acts ≤ 700 := by omega
  clear hdk6 hnf6 hac6 hgx hS6 hW hk6 ho6 hg6 HWD
  go_loopw [17] (fun x wq => ∃ k : Nat, k ≤ n ∧ x = .int .i64 (k : Int) ∧ Rq O6 d w4 S6 k wq) (fun x _ => n - (intOf x).toNat)
  case atStart => exact ⟨0, by omega, rfl, HR0.out⟩
  case round =>
    obtain ⟨k, hk, rfl, S, hdS, hfS, hnS, haS, htS⟩ := hrel
    obtain ⟨wq, hwq⟩ : ∃ wq, wq = wr := ⟨_, rfl⟩
    subst hwq
    have HTS := hd htS
    have HBQ : Hid (Below w.heap.size w wq) := HB4.out.trans (htS.below HO6.out (by omega))
    have HDS := hd hdS
    have HFS := hd hfS
    have HNS := hd hnS
    have HAS := hd haS
    have hsq := htS.size
    clear hdS hfS hnS haS htS
    by_cases hlt : k < n
    · have hki : ((k : Nat) : Int) < (n : Int) := by omega
      have HLT : Hid (k + 1 ≤ n) := hlt
      obtain ⟨lb, off, x, rfl, hgd, hok, hcm, hlb, hcc⟩ := (HI.out.keep (Nat.le_refl _) HBQ.out).at (by omega : k < l.length)
      have hrow := Sg.jr_same HROW.out fun y hy => HTS.out.block y (HROW.out.blk_lt y hy) (fun q => (HG6.out y hy).1 q)
      have hpk := gpls_at (twR l) (twS l) twX X 0 hlt
      obtain ⟨q1, q2, q3, hq⟩ : ∃ q1 q2 q3, gplc (twR l) (0 + k) (gsat (twR l) (twS l) twX X (0 + k)) = (q1, q2, q3) := ⟨_, _, _, rfl⟩
      rw [hq] at hpk
      rw [Nat.zero_add] at hq
      obtain ⟨g, c2, he, _, _⟩ := hrow.nn (by intro e; have := congrArg List.length e; rw [List.length_map, gpls_len] at this; change n = 0 at this; omega)
      injection he with he1 he2 he3
      subst he1
      have m0 : wq.cell? ⟨g, k * 3, none⟩ = some (.int .u32 (q1 : Int)) := hrow.at k _ 0 _ (by rw [List.getElem?_map, hpk]; rfl) rfl
      have m1 : wq.cell? ⟨g, k * 3 + 1, none⟩ = some (.int .i64 (q2 : Int)) := hrow.at k _ 1 _ (by rw [List.getElem?_map, hpk]; rfl) rfl
      have m2 : wq.cell? ⟨g, k * 3 + 2, none⟩ = some (.int .i64 (q3 : Int)) := hrow.at k _ 2 _ (by rw [List.getElem?_map, hpk]; rfl) rfl
      have hcs : (gsat (twR l) (twS l) twX X n).2.acts ≤ 1000 := by rw [← HS6.out]; omega
      obtain ⟨g1, g2, g3, g4, g5⟩ := gread HGN.out (tw_ok l) (by omega) hcs (i := k) (by omega) S (by rw [HFS.out, HS6.out]) HNS.out hq
      have hrd := read_nx wq d O6 S q1 (q2 : Int) (q3 : Int) g3 (by omega) (by omega) HDS.out (by have := HAS.out; omega) g1
      have hbr := twR_eq l k hgd
      have hls := rcQ_lsn x.k x.y x.v (k + 1)
      obtain ⟨⟨r0, rk, rkey, rval⟩, hR⟩ : ∃ r, rcQ x.k x.y x.v (k + 1) = r := ⟨_, rfl⟩
      rw [hR] at hls hbr
      simp only at hls
      subst hls
      rw [g5, g2, hbr] at hrd
      simp only [show rdT (⟨k + 1, rk, rkey, rval⟩ : Rec) 0 = .tuple #[.agg #[.int .u64 (((k + 1 : Nat)) : Int), .int .i64 rk, .string rkey, .string rval], .int .i64 0] from rfl, show (((k + 1 : Nat) : Nat) : Int) = (k : Int) + 1 by omega] at hrd
      have HREC : Hid (∀ w', Calls Tryz.prog 22 #[.agg #[.int .i64 x.k, .int .i64 x.y, .int .i64 x.v, .int .i64 x.n], .int .u64 ((k : Int) + 1)] w' fun e w'' => e = .returned (.agg #[.int .u64 ((k : Int) + 1), .int .i64 rk, .string rkey, .string rval]) ∧ Below w'.heap.size w' w'') := by
        intro w'
        have h := recordOf_eq x.k x.y x.v x.n (k + 1) w' hok.1 hok.2.1 hok.2.2.1
        rw [hR, show (((k + 1 : Nat) : Nat) : Int) = (k : Int) + 1 by omega] at h
        exact h
      have HNT : Hid (Nf (tick S) ∧ (tick S).fs = S.fs ∧ (tick S).acts = S.acts + 1) := ⟨HNS.out.tick, rfl, rfl⟩
      have HRD := hd hrd
      have HGD := hd hgd
      unfold maxLen at hcm
      clear hrd hbr g1 g2 g3 g4 g5 hcs hpk hq hrow he2 he3 hgd hk hok hR hcc
      go_wp2_with fail
      refine Calls.mono HRD.out ?_
      rintro e w7 ⟨rfl, hd7, ht7⟩
      have HD7 := hd hd7
      have HT7 : Hid (Tr O6 w4 w7) := HTS.out.trans ht7 fun x q => .inl q
      have hsz7 := ht7.size
      clear hd7 ht7 HRD m0 m1 m2
      obtain ⟨_, _, x2, e0, e2, _, _, _, hcc⟩ := (HI.out.keep (Nat.le_refl _) (HB4.out.trans (HT7.out.below HO6.out (by omega)))).at (by omega : k < l.length)
      injection e0 with e0
      injection e0 with e0 e1
      subst e0 e1
      have e3 : x = x2 := HGD.out.symm.trans e2
      subst e3
      clear e2
      go_wp2_with fail
      obtain ⟨WX, hWX⟩ : ∃ WX, WX = w7.alloc (.cells #[.int .u64 ((k : Int) + 1), .int .i64 rk, .string rkey, .string rval] 38) := ⟨_, rfl⟩
      have hbX : Below w7.heap.size w7 WX := by rw [hWX]; exact (Below.refl _ _).alloc (Nat.le_refl _) _
      have hrX : Blk WX w7.heap.size 38 [.int .u64 ((k : Int) + 1), .int .i64 rk, .string rkey, .string rval] := by rw [hWX]; exact Blk.new w7 _ [.int .u64 ((k : Int) + 1), .int .i64 rk, .string rkey, .string rval]
      rw [← hWX]
      have hlbw : lb < w7.heap.size := by omega
      have HXB := hd hbX
      have hr0 : ∀ w', Below WX.heap.size WX w' → w'.rangeAt w7.heap.size 0 [.int .u64 ((k : Int) + 1), .int .i64 rk, .string rkey, .string rval] := fun w' hb j u hu => by rw [Nat.zero_add, hb.cell hrX.lt]; exact hrX.cell j u hu
      have hl0 : ∀ w', Below WX.heap.size WX w' → w'.rangeAt lb (off + k * 4) [.int .i64 x.k, .int .i64 x.y, .int .i64 x.v, .int .i64 x.n] := by
        intro w' hb j u hu
        have hb' : Below w7.heap.size w7 w' := hbX.trans (hb.mono hbX.size)
        rw [hb'.cell (p := ⟨lb, off + k * 4 + j, none⟩) hlbw]
        exact hcc j u hu
      have hne : ∀ ww, (binOp .neq 38 (.agg #[.int .u64 ((k : Int) + 1), .int .i64 rk, .string rkey, .string rval]) (.agg #[.int .u64 ((k : Int) + 1), .int .i64 rk, .string rkey, .string rval])).run Tryz.prog ww = .ok (.bool false) ww := fun ww => by simp [go_sem, Op.eqFields]
      have hkl : k < l.length := by omega
      have hk100 : k < 100 := by omega
      clear hWX hbX hrX hcc
      refine region_skip (fun i9 v9 _ => match i9 with
          | 0 => v9 = Value.int IntKind.i64 0
          | 1 => v9 = .bool false
          | 2 => v9 = .bool false
          | 3 => v9 = .agg #[.int .u64 ((k : Int) + 1), .int .i64 rk, .string rkey, .string rval]
          | 4 => v9 = Value.slice (some { block := lb, off := off }) l.length c
          | 5 => v9 = Value.int IntKind.i64 ((k : Nat) : Int)
          | 6 => v9 = .pointer (some ⟨lb, off + k * 4, none⟩)
          | 7 => v9 = .agg #[.int .i64 x.k, .int .i64 x.y, .int .i64 x.v, .int .i64 x.n]
          | 8 => v9 = Value.int IntKind.i64 ((k : Nat) : Int)
          | 9 => v9 = .int .i64 ((k : Int) + 1)
          | 10 => v9 = .int .u64 ((k : Int) + 1)
          | 11 => v9 = .agg #[.int .u64 ((k : Int) + 1), .int .i64 rk, .string rkey, .string rval]
          | 12 => v9 = .bool false
          | _ => v9 = .bool false) (fun w => Below WX.heap.size WX w) hmx (by kernel_rfl) (by kernel_rfl) ((Below.refl _ _).drew) ?_ ?_ ?_
      · as_aux_lemma =>
          intro i9 v9 w8 w9 _ _ hb hG
          match i9, hG with
          | 0, h => exact h
          | 1, h => exact h
          | 2, h => exact h
          | 3, h => exact h
          | 4, h => exact h
          | 5, h => exact h
          | 6, h => exact h
          | 7, h => exact h
          | 8, h => exact h
          | 9, h => exact h
          | 10, h => exact h
          | 11, h => exact h
          | 12, h => exact h
          | n + 13, h => exact h
      · as_aux_lemma =>
          intro i9 o9 ho a9 w9 hW hdf hsz hout haf
          have ee0 := getq (show a9.tmps.getD 0 undef = Value.slice (some { block := lb, off := off }) l.length c from hout 0 (notDst_spec (by kernel_rfl)))
          have ee17 := getq (show a9.tmps.getD 17 undef = Value.int IntKind.i64 ((k : Nat) : Int) from hout 17 (notDst_spec (by kernel_rfl)))
          have ee18 := getq (show a9.tmps.getD 18 undef = Value.pointer (some { block := w7.heap.size, off := 0 }) from hout 18 (notDst_spec (by kernel_rfl)))
          have ee19 := getq (show a9.tmps.getD 19 undef = Value.int IntKind.i64 0 from hout 19 (notDst_spec (by kernel_rfl)))
          have h18 : a9.tmps.getD 18 undef = .pointer (some ⟨w7.heap.size, 0, none⟩) := hout 18 (notDst_spec (by kernel_rfl))
          have hsz2 : a9.tmps.size = 141 := hsz
          clear hout hsz hdf
          match i9, ho, haf with
          | 0, ho, haf =>
            obtain rfl := Option.some.inj ho
            refine skip_good _ (wanted_none rfl) ?_
            clear haf ho hsz2
            intro K hK
            simp only [List.getElem_toArray, List.getElem_cons_zero] at hK ⊢
            go_simp
            exact hK _ _ ⟨Below.refl _ _, hW, rfl⟩
          | 1, ho, haf =>
            obtain rfl := Option.some.inj ho
            have f0 := getq (show a9.tmps.getD 67 undef = Value.int IntKind.i64 0 from haf ⟨0, .data⟩ (by simp) rfl)
            refine skip_good _ (wanted_none rfl) ?_
            clear haf ho hsz2
            intro K hK
            simp only [List.getElem_toArray, List.getElem_cons_succ, List.getElem_cons_zero] at hK ⊢
            go_simp
            exact hK _ _ ⟨Below.refl _ _, hW, rfl⟩
          | 2, ho, haf =>
            obtain rfl := Option.some.inj ho
            have f1 := getq (show a9.tmps.getD 68 undef = .bool false from haf ⟨1, .data⟩ (by simp) rfl)
            refine skip_good _ (wanted_none rfl) ?_
            clear haf ho hsz2
            intro K hK
            simp only [List.getElem_toArray, List.getElem_cons_succ, List.getElem_cons_zero] at hK ⊢
            go_simp
            exact hK _ _ ⟨Below.refl _ _, hW, rfl⟩
          | 3, ho, haf =>
            obtain rfl := Option.some.inj ho
            have gg : a9.tmps.getD 69 undef = .bool false := haf ⟨2, .guard⟩ (by simp) rfl
            refine skip_good _ (wanted_some rfl (yielded_of (d := 69) rfl (by omega) gg)) ?_
            have hx0 : a9.eval (Operand.tmp 18) = .pointer (some ⟨w7.heap.size, 0, none⟩) := h18
            clear haf ho hsz2 gg
            intro K hK
            simp only [List.getElem_toArray, List.getElem_cons_succ, List.getElem_cons_zero] at hK ⊢
            exact wp_load_mid 38 _ rfl w7.heap.size 0 hx0 [.int .u64 ((k : Int) + 1), .int .i64 rk, .string rkey, .string rval] _ (hr0 w9 hW) Tryz.underlying38 rfl (by kernel_rfl) (hK _ _ ⟨Below.refl _ _, hW, rfl⟩)
          | 4, ho, haf =>
            obtain rfl := Option.some.inj ho
            have gg : a9.tmps.getD 69 undef = .bool false := haf ⟨2, .guard⟩ (by simp) rfl
            refine skip_good _ (wanted_some rfl (yielded_of (d := 69) rfl (by omega) gg)) ?_
            clear haf ho hsz2 gg
            intro K hK
            simp only [List.getElem_toArray, List.getElem_cons_succ, List.getElem_cons_zero] at hK ⊢
            go_simp
            exact hK _ _ ⟨Below.refl _ _, hW, rfl⟩
          | 5, ho, haf =>
            obtain rfl := Option.some.inj ho
            have gg : a9.tmps.getD 69 undef = .bool false := haf ⟨2, .guard⟩ (by simp) rfl
            refine skip_good _ (wanted_some rfl (yielded_of (d := 69) rfl (by omega) gg)) ?_
            clear haf ho hsz2 gg
            intro K hK
            simp only [List.getElem_toArray, List.getElem_cons_succ, List.getElem_cons_zero] at hK ⊢
            go_simp
            exact hK _ _ ⟨Below.refl _ _, hW, rfl⟩
          | 6, ho, haf =>
            obtain rfl := Option.some.inj ho
            have gg : a9.tmps.getD 69 undef = .bool false := haf ⟨2, .guard⟩ (by simp) rfl
            have f4 := getq (show a9.tmps.getD 71 undef = Value.slice (some { block := lb, off := off }) l.length c from haf ⟨4, .data⟩ (by simp) rfl)
            have f5 := getq (show a9.tmps.getD 72 undef = Value.int IntKind.i64 ((k : Nat) : Int) from haf ⟨5, .data⟩ (by simp) rfl)
            refine skip_good _ (wanted_some rfl (yielded_of (d := 69) rfl (by omega) gg)) ?_
            clear haf ho hsz2 gg
            intro K hK
            simp only [List.getElem_toArray, List.getElem_cons_succ, List.getElem_cons_zero] at hK ⊢
            go_simp
            exact hK _ _ ⟨Below.refl _ _, hW, rfl⟩
          | 7, ho, haf =>
            obtain rfl := Option.some.inj ho
            have gg : a9.tmps.getD 69 undef = .bool false := haf ⟨2, .guard⟩ (by simp) rfl
            have f6 := getq (show a9.tmps.getD 73 undef = .pointer (some ⟨lb, off + k * 4, none⟩) from haf ⟨6, .data⟩ (by simp) rfl)
            refine skip_good _ (wanted_some rfl (yielded_of (d := 69) rfl (by omega) gg)) ?_
            have hx0 : a9.eval (Operand.tmp 73) = .pointer (some ⟨lb, off + k * 4, none⟩) := haf ⟨6, .data⟩ (by simp) rfl
            clear haf ho hsz2 gg
            intro K hK
            simp only [List.getElem_toArray, List.getElem_cons_succ, List.getElem_cons_zero] at hK ⊢
            exact wp_load_mid 75 _ rfl lb (off + k * 4) hx0 [.int .i64 x.k, .int .i64 x.y, .int .i64 x.v, .int .i64 x.n] _ (hl0 w9 hW) Tryz.underlying75 rfl (by kernel_rfl) (hK _ _ ⟨Below.refl _ _, hW, rfl⟩)
          | 8, ho, haf =>
            obtain rfl := Option.some.inj ho
            have gg : a9.tmps.getD 69 undef = .bool false := haf ⟨2, .guard⟩ (by simp) rfl
            refine skip_good _ (wanted_some rfl (yielded_of (d := 69) rfl (by omega) gg)) ?_
            clear haf ho hsz2 gg
            intro K hK
            simp only [List.getElem_toArray, List.getElem_cons_succ, List.getElem_cons_zero] at hK ⊢
            go_simp
            exact hK _ _ ⟨Below.refl _ _, hW, rfl⟩
          | 9, ho, haf =>
            obtain rfl := Option.some.inj ho
            have gg : a9.tmps.getD 69 undef = .bool false := haf ⟨2, .guard⟩ (by simp) rfl
            have f8 := getq (show a9.tmps.getD 75 undef = Value.int IntKind.i64 ((k : Nat) : Int) from haf ⟨8, .data⟩ (by simp) rfl)
            refine skip_good _ (wanted_some rfl (yielded_of (d := 69) rfl (by omega) gg)) ?_
            clear haf ho hsz2 gg
            intro K hK
            simp only [List.getElem_toArray, List.getElem_cons_succ, List.getElem_cons_zero] at hK ⊢
            go_simp
            exact hK _ _ ⟨Below.refl _ _, hW, (by first | rfl | (congr 1; rw [IntKind.wrap_i64]; omega))⟩
          | 10, ho, haf =>
            obtain rfl := Option.some.inj ho
            have gg : a9.tmps.getD 69 undef = .bool false := haf ⟨2, .guard⟩ (by simp) rfl
            have f9 := getq (show a9.tmps.getD 76 undef = .int .i64 ((k : Int) + 1) from haf ⟨9, .data⟩ (by simp) rfl)
            refine skip_good _ (wanted_some rfl (yielded_of (d := 69) rfl (by omega) gg)) ?_
            clear haf ho hsz2 gg
            intro K hK
            simp only [List.getElem_toArray, List.getElem_cons_succ, List.getElem_cons_zero] at hK ⊢
            go_simp
            exact hK _ _ ⟨Below.refl _ _, hW, (by first | rfl | (congr 1; rw [IntKind.wrap_u64]; omega))⟩
          | 11, ho, haf =>
            obtain rfl := Option.some.inj ho
            have gg : a9.tmps.getD 69 undef = .bool false := haf ⟨2, .guard⟩ (by simp) rfl
            have f7 := getq (show a9.tmps.getD 74 undef = .agg #[.int .i64 x.k, .int .i64 x.y, .int .i64 x.v, .int .i64 x.n] from haf ⟨7, .data⟩ (by simp) rfl)
            have f10 := getq (show a9.tmps.getD 77 undef = .int .u64 ((k : Int) + 1) from haf ⟨10, .data⟩ (by simp) rfl)
            refine skip_good _ (wanted_some rfl (yielded_of (d := 69) rfl (by omega) gg)) ?_
            clear haf ho hsz2 gg
            intro K hK
            simp only [List.getElem_toArray, List.getElem_cons_succ, List.getElem_cons_zero] at hK ⊢
            go_simp
            refine Calls.mono (HREC.out w9) ?_
            rintro e9 w8 ⟨rfl, hb9⟩
            exact hK _ _ ⟨hb9, hW.trans (hb9.mono hW.size), rfl⟩
          | 12, ho, haf =>
            obtain rfl := Option.some.inj ho
            have gg : a9.tmps.getD 69 undef = .bool false := haf ⟨2, .guard⟩ (by simp) rfl
            have f3 := getq (show a9.tmps.getD 70 undef = .agg #[.int .u64 ((k : Int) + 1), .int .i64 rk, .string rkey, .string rval] from haf ⟨3, .data⟩ (by simp) rfl)
            have f11 := getq (show a9.tmps.getD 78 undef = .agg #[.int .u64 ((k : Int) + 1), .int .i64 rk, .string rkey, .string rval] from haf ⟨11, .data⟩ (by simp) rfl)
            refine skip_good _ (wanted_some rfl (yielded_of (d := 69) rfl (by omega) gg)) ?_
            clear haf ho hsz2 gg
            intro K hK
            simp only [List.getElem_toArray, List.getElem_cons_succ, List.getElem_cons_zero] at hK ⊢
            go_simp
            exact hK _ _ ⟨Below.refl _ _, hW, rfl⟩
          | 13, ho, haf =>
            obtain rfl := Option.some.inj ho
            have f2 := getq (show a9.tmps.getD 69 undef = .bool false from haf ⟨2, .data⟩ (by simp) rfl)
            have f12 := getq (show a9.tmps.getD 79 undef = .bool false from haf ⟨12, .data⟩ (by simp) rfl)
            refine skip_good _ (wanted_none rfl) ?_
            clear haf ho hsz2
            intro K hK
            simp only [List.getElem_toArray, List.getElem_cons_succ, List.getElem_cons_zero] at hK ⊢
            go_simp
            exact hK _ _ ⟨Below.refl _ _, hW, rfl⟩
          | n + 14, ho, haf => simp at ho
      · as_aux_lemma =>
          intro aa w9 hW hdf hsz hout hall
          have hat : aa.tmps = #[Value.slice (some { block := lb, off := off }) l.length c, Value.int IntKind.i64 lim, Value.int IntKind.i64 evy, Value.int IntKind.i64 keep, undef, undef, undef, undef, u8, Value.pointer (some { block := d, off := 0 }), Value.slice (some { block := g, off := 0 }) n uc, Value.int IntKind.i64 ((ls : Nat) : Int), Value.bool true, Value.pointer (some { block := d2, off := 0 }), u2, Value.int IntKind.i64 ((lastS [{ k := 1, y := 0, v := 0, n := 0 }] 1 : Nat) : Int), Value.bool true, Value.int IntKind.i64 ((k : Nat) : Int), Value.pointer (some { block := w7.heap.size, off := 0 }), Value.int IntKind.i64 0, undef, undef, undef, Value.tuple #[Value.pointer (some { block := d, off := 0 }), Value.slice (some { block := g, off := 0 }) n uc, Value.int IntKind.i64 ((ls : Nat) : Int), Value.bool true], Value.slice (some { block := lb, off := off }) l.length c, Value.int IntKind.i64 lim, Value.int IntKind.i64 evy, Value.tuple #[Value.pointer (some { block := d, off := 0 }), Value.slice (some { block := g, off := 0 }) n uc, Value.int IntKind.i64 ((ls : Nat) : Int), Value.bool true], Value.pointer (some { block := d, off := 0 }), Value.slice (some { block := g, off := 0 }) n uc, Value.int IntKind.i64 ((ls : Nat) : Int), Value.bool true, Value.tuple #[Value.pointer (some { block := d2, off := 0 }), u2, Value.int IntKind.i64 ((lastS [{ k := 1, y := 0, v := 0, n := 0 }] 1 : Nat) : Int), Value.bool true], Value.agg #[Value.int IntKind.i64 1, Value.int IntKind.i64 0, Value.int IntKind.i64 0, Value.int IntKind.i64 0], Value.slice (some { block := w1.heap.size, off := 0 }) 1 1, Value.tuple #[Value.pointer (some { block := d2, off := 0 }), u2, Value.int IntKind.i64 ((lastS [{ k := 1, y := 0, v := 0, n := 0 }] 1 : Nat) : Int), Value.bool true], Value.pointer (some { block := d2, off := 0 }), u2, Value.int IntKind.i64 ((lastS [{ k := 1, y := 0, v := 0, n := 0 }] 1 : Nat) : Int), Value.bool true, Value.bool true, Value.bool false, Value.bool false, Value.bool true, Value.bool false, Value.bool false, Value.bool false, Value.pointer (some { block := d2, off := 0 }), Value.slice fa 1 fc, Value.int IntKind.i64 1, Value.bool false, Value.bool false, Value.int IntKind.i64 ((k : Nat) : Int), Value.slice (some { block := g, off := 0 }) n uc, Value.int IntKind.i64 ((n : Nat) : Int), Value.bool true, u56, u57, Value.tuple #[Value.agg #[Value.int IntKind.u64 (((k : Nat) : Int) + 1), Value.int IntKind.i64 rk, Value.string rkey, Value.string rval], Value.int IntKind.i64 0], Value.pointer (some { block := d, off := 0 }), Value.slice (some { block := g, off := 0 }) n uc, Value.int IntKind.i64 ((k : Nat) : Int), Value.pointer (some { block := g, off := k * 3 }), Value.agg #[Value.int IntKind.u32 ((q1 : Nat) : Int), Value.int IntKind.i64 ((q2 : Nat) : Int), Value.int IntKind.i64 ((q3 : Nat) : Int)], Value.tuple #[Value.agg #[Value.int IntKind.u64 (((k : Nat) : Int) + 1), Value.int IntKind.i64 rk, Value.string rkey, Value.string rval], Value.int IntKind.i64 0], Value.agg #[Value.int IntKind.u64 (((k : Nat) : Int) + 1), Value.int IntKind.i64 rk, Value.string rkey, Value.string rval], Value.int IntKind.i64 0, Value.int IntKind.i64 0, .bool false, .bool false, .agg #[.int .u64 ((k : Int) + 1), .int .i64 rk, .string rkey, .string rval], Value.slice (some { block := lb, off := off }) l.length c, Value.int IntKind.i64 ((k : Nat) : Int), .pointer (some ⟨lb, off + k * 4, none⟩), .agg #[.int .i64 x.k, .int .i64 x.y, .int .i64 x.v, .int .i64 x.n], Value.int IntKind.i64 ((k : Nat) : Int), .int .i64 ((k : Int) + 1), .int .u64 ((k : Int) + 1), .agg #[.int .u64 ((k : Int) + 1), .int .i64 rk, .string rkey, .string rval], .bool false, .bool false, undef, undef, undef, undef, undef, undef, undef, undef, undef, undef, undef, undef, undef, undef, undef, undef, undef, undef, undef, undef, undef, undef, undef, undef, undef, undef, undef, undef, undef, undef, undef, undef, undef, undef, undef, undef, undef, undef, undef, undef, undef, undef, undef, undef, undef, undef, undef, undef, undef, undef, undef, undef, undef, undef, undef, undef, undef, undef, undef, undef] := by
            refine (tmps_of (lo := 67) (vs := [Value.int IntKind.i64 0, .bool false, .bool false, .agg #[.int .u64 ((k : Int) + 1), .int .i64 rk, .string rkey, .string rval], Value.slice (some { block := lb, off := off }) l.length c, Value.int IntKind.i64 ((k : Nat) : Int), .pointer (some ⟨lb, off + k * 4, none⟩), .agg #[.int .i64 x.k, .int .i64 x.y, .int .i64 x.v, .int .i64 x.n], Value.int IntKind.i64 ((k : Nat) : Int), .int .i64 ((k : Int) + 1), .int .u64 ((k : Int) + 1), .agg #[.int .u64 ((k : Int) + 1), .int .i64 rk, .string rkey, .string rval], .bool false, .bool false]) hsz (by kernel_rfl) (Nat.le_of_ble_eq_true (by kernel_rfl)) hout (fun i hi => ?_)).trans ?_
            · match i, hi with
              | 0, _ => exact hall 0 (by decide)
              | 1, _ => exact hall 1 (by decide)
              | 2, _ => exact hall 2 (by decide)
              | 3, _ => exact hall 3 (by decide)
              | 4, _ => exact hall 4 (by decide)
              | 5, _ => exact hall 5 (by decide)
              | 6, _ => exact hall 6 (by decide)
              | 7, _ => exact hall 7 (by decide)
              | 8, _ => exact hall 8 (by decide)
              | 9, _ => exact hall 9 (by decide)
              | 10, _ => exact hall 10 (by decide)
              | 11, _ => exact hall 11 (by decide)
              | 12, _ => exact hall 12 (by decide)
              | 13, _ => exact hall 13 (by decide)
              | n + 14, h => exact absurd h (by simp)
            · rfl
          obtain ⟨tt, dd⟩ := aa
          simp only at hat hdf
          subst hat hdf
          clear hsz hout hall
          go_wp2_with fail
          go_roundw
          case rel => exact ⟨k + 1, HLT.out, by go_num, tick S, ((HD7.out.aside (Tr.ofB HXB.out (fun _ => False)) (fun _ _ q => q)).aside (Tr.ofB hW (fun _ => False)) (fun _ _ q => q)), HNT.out.2.1.trans HFS.out, HNT.out.1, by rw [HNT.out.2.2, HAS.out]; omega, (HT7.out.trans (Tr.ofB HXB.out O6) fun x q => .inl q).trans (Tr.ofB hW O6) fun x q => .inl q⟩
          case measure => have := HLT.out; simp [intOf]; omega
    · have hki : ¬ ((k : Nat) : Int) < (n : Int) := by omega
      obtain rfl : k = n := by omega
      clear hk hlt
      go_wp2_with fail
      obtain ⟨kp, hkp⟩ : ∃ kp, kp = pkN keep 300 := ⟨_, rfl⟩
      have HPK : Hid (∀ w', Calls Tryz.prog 23 #[.int .i64 keep, .int .i64 300] w' fun e w'' => e = .returned (.int .i64 ((kp : Nat) : Int)) ∧ w'' = w') := by rw [hkp]; exact HPK.out
      clear hkp
      obtain ⟨g1, ⟨p, g2, g2b, g2c⟩, g3, g4, g5, g6⟩ := gcrash (tw_ok l) twX_le (by omega) HG0.out k (by omega) S (by rw [HFS.out, HS6.out]) ((kp : Nat) : Int)
      rw [← lastS_lst, ← HLS.out] at g2
      have hrc := trecords_is wq d O6 S HDS.out (by have := HAS.out; omega) g3 (by omega) (by rw [g1, List.length_map, List.length_range]; omega)
      rw [g1] at hrc
      have HRC := hd hrc
      have G2C := hd g2c
      have G4 := hd g4
      have G6 := hd g6
      clear hrc g1 g3 g5 g2c g4 g6
      refine Calls.mono HRC.out ?_
      rintro e w9 ⟨v9, rfl, hj9, hb9⟩
      obtain ⟨aa9, ac9, hv9, hac9⟩ := hj9.shape
      subst hv9
      rw [List.length_map, List.length_map, List.length_range] at hac9 ⊢
      rw [List.length_map, List.length_map, List.length_range] at hj9
      have hacm := row_cap hj9
      have HJ9 := hd hj9
      have HB9 : Hid (Below w.heap.size w w9) := HBQ.out.trans (hb9.mono (by omega))
      have HD9 := hd (HDS.out.aside (Tr.ofB hb9 (fun _ => False)) (fun _ _ q => q))
      have hs9 := hb9.size
      clear hj9 hb9 HRC HDS HBQ
      go_wp2_with fail
      refine Calls.mono (HPK.out _) ?_
      rintro e wa ⟨rfl, rfl⟩
      go_wp2_with fail
      refine Calls.mono (crash_is wa d O6 S ((kp : Nat) : Int) HD9.out) ?_
      rintro e wc ⟨rfl, Oc, hdc, htc, hoc⟩
      have hjc := jr_same HJ9.out fun y hy => htc.block y (HJ9.out.blk_lt y hy) (fun q => by have := HOL6.out y q; have := HJ9.out.blk_ge y hy; omega)
      have HJC := hd hjc
      have HDC := hd hdc
      have HBC : Hid (Below w.heap.size w wc) := HB9.out.trans (htc.below HO6.out (by omega))
      have hsc := htc.size
      clear hdc htc hoc hjc HJ9 HD9 HB9
      go_wp2_with fail
      have hrc := trecords_is wc d Oc (crash ((kp : Nat) : Int) S) HDC.out (by show S.acts < _; have := HAS.out; omega) G4.out (by have := G6.out; omega) (by rw [G2C.out, List.length_map, List.length_range]; omega)
      rw [G2C.out] at hrc
      have HRC := hd hrc
      clear hrc
      refine Calls.mono HRC.out ?_
      rintro e wd ⟨vd, rfl, hjd, hbd⟩
      obtain ⟨da, dc, hvd, hdc⟩ := hjd.shape
      subst hvd
      rw [List.length_map, List.length_map, List.length_range] at hdc ⊢
      rw [List.length_map, List.length_map, List.length_range] at hjd
      have hdcm := row_cap hjd
      have HJD := hd hjd
      have HJC := hd (HJC.out.keepAll hbd)
      have HBD : Hid (Below w.heap.size w wd) := HBC.out.trans (hbd.mono (by omega))
      have hsd := hbd.size
      clear hjd hbd HRC HBC HDC
      have hpl : decide (p < ls) = false := decide_eq_false (by omega)
      have hpk : decide (k < p) = false := decide_eq_false (by omega)
      go_wp2_with fail
      clear hpl hpk
      have hB : Below wd.heap.size wd wd := Below.refl _ _
      go_loopw [22] (fun x wr => ∃ j : Nat, j ≤ k ∧ x = .int .i64 (j : Int) ∧ Below wd.heap.size wd wr) (fun x _ => k - (intOf x).toNat)
      case atStart => exact ⟨0, by omega, rfl, by first | exact hB | exact below_drewN hB _⟩
      case round =>
        obtain ⟨j, hj, rfl, hBI⟩ := hrel
        obtain ⟨wi, hwi⟩ : ∃ wi, wi = wr := ⟨_, rfl⟩
        subst hwi
        have HBI := hd hBI
        have hsi := hBI.size
        clear hBI hB
        by_cases hjk : j < k
        · have hji : ((j : Nat) : Int) < (k : Int) := by omega
          have HJK : Hid (j + 1 ≤ k) := hjk
          obtain ⟨lb, off, x, rfl, hgd, hok, hcm, hlb, hcc⟩ := (HI.out.keep (Nat.le_refl _) (HBD.out.trans (HBI.out.mono (by omega)))).at (by omega : j < l.length)
          have hrj := HJC.out.keepAll HBI.out
          obtain ⟨ga, ca9, hva, _, _⟩ := hrj.nn (by intro e; have := congrArg List.length e; rw [List.length_map, List.length_map, List.length_range] at this; change k = 0 at this; omega)
          injection hva with hv1 hv2 hv3
          subst hv1
          clear hv2 hv3
          have hbr := twR_eq l j hgd
          have hls := rcQ_lsn x.k x.y x.v (j + 1)
          obtain ⟨⟨r0, rk, rkey, rval⟩, hR⟩ : ∃ r, rcQ x.k x.y x.v (j + 1) = r := ⟨_, rfl⟩
          rw [hR] at hls hbr
          simp only at hls
          subst hls
          have hrow : ((List.range k).map (twR l)).map rvl = ((List.range k).map (twR l)).map rvl := rfl
          have hat : (((List.range k).map (twR l)).map rvl)[j]? = some [.int .u64 (((j + 1 : Nat)) : Int), .int .i64 rk, .string rkey, .string rval] := by
            rw [List.getElem?_map, List.getElem?_map, List.getElem?_range hjk]
            show some (rvl (twR l j)) = _
            rw [hbr]; rfl
          rw [show (((j + 1 : Nat) : Nat) : Int) = (j : Int) + 1 by omega] at hat
          have HREC : Hid (∀ w', Calls Tryz.prog 22 #[.agg #[.int .i64 x.k, .int .i64 x.y, .int .i64 x.v, .int .i64 x.n], .int .u64 ((j : Int) + 1)] w' fun e w'' => e = .returned (.agg #[.int .u64 ((j : Int) + 1), .int .i64 rk, .string rkey, .string rval]) ∧ Below w'.heap.size w' w'') := by
            intro w'
            have h := recordOf_eq x.k x.y x.v x.n (j + 1) w' hok.1 hok.2.1 hok.2.2.1
            rw [hR, show (((j + 1 : Nat) : Nat) : Int) = (j : Int) + 1 by omega] at h
            exact h
          have hr0 : ∀ w', Below wi.heap.size wi w' → w'.rangeAt ga (j * 4) [.int .u64 ((j : Int) + 1), .int .i64 rk, .string rkey, .string rval] := fun w' hb jj u hu => (hrj.keepAll hb).at j _ jj u hat hu
          have hlbw : lb < wi.heap.size := by omega
          have hl0 : ∀ w', Below wi.heap.size wi w' → w'.rangeAt lb (off + j * 4) [.int .i64 x.k, .int .i64 x.y, .int .i64 x.v, .int .i64 x.n] := by
            intro w' hb jj u hu
            rw [hb.cell (p := ⟨lb, off + j * 4 + jj, none⟩) hlbw]
            exact hcc jj u hu
          have hne : ∀ ww, (binOp .neq 38 (.agg #[.int .u64 ((j : Int) + 1), .int .i64 rk, .string rkey, .string rval]) (.agg #[.int .u64 ((j : Int) + 1), .int .i64 rk, .string rkey, .string rval])).run Tryz.prog ww = .ok (.bool false) ww := fun ww => by simp [go_sem, Op.eqFields]
          have hjl : j < l.length := by omega
          have hj100 : j < 100 := by omega
          unfold maxLen at hcm
          by_cases hjp : j < p
          · have hjpi : ((j : Nat) : Int) < (p : Int) := by omega
            have hrd := HJD.out.keepAll HBI.out
            obtain ⟨gd, cd9, hvd, _, _⟩ := hrd.nn (by intro e; have := congrArg List.length e; rw [List.length_map, List.length_map, List.length_range] at this; change p = 0 at this; omega)
            injection hvd with hv1 hv2 hv3
            subst hv1
            clear hv2 hv3
            have hatp : (((List.range p).map (twR l)).map rvl)[j]? = some [.int .u64 ((j : Int) + 1), .int .i64 rk, .string rkey, .string rval] := by
              rw [List.getElem?_map, List.getElem?_map, List.getElem?_range hjp]
              rw [List.getElem?_map, List.getElem?_map, List.getElem?_range hjk] at hat
              exact hat
            have hq0 : ∀ w', Below wi.heap.size wi w' → w'.rangeAt gd (j * 4) [.int .u64 ((j : Int) + 1), .int .i64 rk, .string rkey, .string rval] := fun w' hb jj u hu => (hrd.keepAll hb).at j _ jj u hatp hu
            clear hat hatp hrow hrd hrj hgd hok hR hcc hbr
            go_wp2_with fail
            refine region_skip (fun i9 v9 _ => match i9 with
                | 0 => v9 = Value.slice (some { block := ga, off := 0 }) k ac9
                | 1 => v9 = Value.int IntKind.i64 ((j : Nat) : Int)
                | 2 => v9 = .pointer (some ⟨ga, j * 4, none⟩)
                | 3 => v9 = .agg #[.int .u64 ((j : Int) + 1), .int .i64 rk, .string rkey, .string rval]
                | 4 => v9 = Value.slice (some { block := lb, off := off }) l.length c
                | 5 => v9 = Value.int IntKind.i64 ((j : Nat) : Int)
                | 6 => v9 = .pointer (some ⟨lb, off + j * 4, none⟩)
                | 7 => v9 = .agg #[.int .i64 x.k, .int .i64 x.y, .int .i64 x.v, .int .i64 x.n]
                | 8 => v9 = Value.int IntKind.i64 ((j : Nat) : Int)
                | 9 => v9 = .int .i64 ((j : Int) + 1)
                | 10 => v9 = .int .u64 ((j : Int) + 1)
                | 11 => v9 = .agg #[.int .u64 ((j : Int) + 1), .int .i64 rk, .string rkey, .string rval]
                | 12 => v9 = .bool false
                | 13 => v9 = .bool false
                | 14 => v9 = Value.int IntKind.i64 ((j : Nat) : Int)
                | 15 => v9 = Value.slice (some { block := gd, off := 0 }) p dc
                | 16 => v9 = .int .i64 ((p : Nat) : Int)
                | 17 => v9 = .bool true
                | 18 => v9 = .bool true
                | 19 => v9 = Value.slice (some { block := gd, off := 0 }) p dc
                | 20 => v9 = Value.int IntKind.i64 ((j : Nat) : Int)
                | 21 => v9 = .pointer (some ⟨gd, j * 4, none⟩)
                | 22 => v9 = .agg #[.int .u64 ((j : Int) + 1), .int .i64 rk, .string rkey, .string rval]
                | 23 => v9 = Value.slice (some { block := ga, off := 0 }) k ac9
                | 24 => v9 = Value.int IntKind.i64 ((j : Nat) : Int)
                | 25 => v9 = .pointer (some ⟨ga, j * 4, none⟩)
                | 26 => v9 = .agg #[.int .u64 ((j : Int) + 1), .int .i64 rk, .string rkey, .string rval]
                | 27 => v9 = .bool false
                | 28 => v9 = .bool false
                | _ => v9 = .bool false) (fun w => Below wi.heap.size wi w) hmx (by kernel_rfl) (by kernel_rfl) ((Below.refl _ _).drew) ?_ ?_ ?_
            · as_aux_lemma =>
                intro i9 v9 w8 w9 _ _ hb hG
                match i9, hG with
                | 0, h => exact h
                | 1, h => exact h
                | 2, h => exact h
                | 3, h => exact h
                | 4, h => exact h
                | 5, h => exact h
                | 6, h => exact h
                | 7, h => exact h
                | 8, h => exact h
                | 9, h => exact h
                | 10, h => exact h
                | 11, h => exact h
                | 12, h => exact h
                | 13, h => exact h
                | 14, h => exact h
                | 15, h => exact h
                | 16, h => exact h
                | 17, h => exact h
                | 18, h => exact h
                | 19, h => exact h
                | 20, h => exact h
                | 21, h => exact h
                | 22, h => exact h
                | 23, h => exact h
                | 24, h => exact h
                | 25, h => exact h
                | 26, h => exact h
                | 27, h => exact h
                | 28, h => exact h
                | n + 29, h => exact h
            · as_aux_lemma =>
                intro i9 o9 ho a9 w9 hW hdf hsz hout haf
                have ee0 := getq (show a9.tmps.getD 0 undef = Value.slice (some { block := lb, off := off }) l.length c from hout 0 (notDst_spec (by kernel_rfl)))
                have ee20 := getq (show a9.tmps.getD 20 undef = Value.slice (some { block := ga, off := 0 }) k ac9 from hout 20 (notDst_spec (by kernel_rfl)))
                have ee21 := getq (show a9.tmps.getD 21 undef = Value.slice (some { block := gd, off := 0 }) p dc from hout 21 (notDst_spec (by kernel_rfl)))
                have ee22 := getq (show a9.tmps.getD 22 undef = Value.int IntKind.i64 ((j : Nat) : Int) from hout 22 (notDst_spec (by kernel_rfl)))
                have hsz2 : a9.tmps.size = 141 := hsz
                clear hout hsz hdf
                match i9, ho, haf with
                | 0, ho, haf =>
                  obtain rfl := Option.some.inj ho
                  refine skip_good _ (wanted_none rfl) ?_
                  clear haf ho hsz2
                  intro K hK
                  simp only [List.getElem_toArray, List.getElem_cons_zero] at hK ⊢
                  go_simp
                  exact hK _ _ ⟨Below.refl _ _, hW, rfl⟩
                | 1, ho, haf =>
                  obtain rfl := Option.some.inj ho
                  refine skip_good _ (wanted_none rfl) ?_
                  clear haf ho hsz2
                  intro K hK
                  simp only [List.getElem_toArray, List.getElem_cons_succ, List.getElem_cons_zero] at hK ⊢
                  go_simp
                  exact hK _ _ ⟨Below.refl _ _, hW, rfl⟩
                | 2, ho, haf =>
                  obtain rfl := Option.some.inj ho
                  have f0 := getq (show a9.tmps.getD 111 undef = Value.slice (some { block := ga, off := 0 }) k ac9 from haf ⟨0, .data⟩ (by simp) rfl)
                  have f1 := getq (show a9.tmps.getD 112 undef = Value.int IntKind.i64 ((j : Nat) : Int) from haf ⟨1, .data⟩ (by simp) rfl)
                  refine skip_good _ (wanted_none rfl) ?_
                  clear haf ho hsz2
                  intro K hK
                  simp only [List.getElem_toArray, List.getElem_cons_succ, List.getElem_cons_zero] at hK ⊢
                  go_simp
                  exact hK _ _ ⟨Below.refl _ _, hW, rfl⟩
                | 3, ho, haf =>
                  obtain rfl := Option.some.inj ho
                  have f2 := getq (show a9.tmps.getD 113 undef = .pointer (some ⟨ga, j * 4, none⟩) from haf ⟨2, .data⟩ (by simp) rfl)
                  refine skip_good _ (wanted_none rfl) ?_
                  have hx0 : a9.eval (Operand.tmp 113) = .pointer (some ⟨ga, j * 4, none⟩) := haf ⟨2, .data⟩ (by simp) rfl
                  clear haf ho hsz2
                  intro K hK
                  simp only [List.getElem_toArray, List.getElem_cons_succ, List.getElem_cons_zero] at hK ⊢
                  exact wp_load_mid 38 _ rfl ga (j * 4) hx0 [.int .u64 ((j : Int) + 1), .int .i64 rk, .string rkey, .string rval] _ (hr0 w9 hW) Tryz.underlying38 rfl (by kernel_rfl) (hK _ _ ⟨Below.refl _ _, hW, rfl⟩)
                | 4, ho, haf =>
                  obtain rfl := Option.some.inj ho
                  refine skip_good _ (wanted_none rfl) ?_
                  clear haf ho hsz2
                  intro K hK
                  simp only [List.getElem_toArray, List.getElem_cons_succ, List.getElem_cons_zero] at hK ⊢
                  go_simp
                  exact hK _ _ ⟨Below.refl _ _, hW, rfl⟩
                | 5, ho, haf =>
                  obtain rfl := Option.some.inj ho
                  refine skip_good _ (wanted_none rfl) ?_
                  clear haf ho hsz2
                  intro K hK
                  simp only [List.getElem_toArray, List.getElem_cons_succ, List.getElem_cons_zero] at hK ⊢
                  go_simp
                  exact hK _ _ ⟨Below.refl _ _, hW, rfl⟩
                | 6, ho, haf =>
                  obtain rfl := Option.some.inj ho
                  have f4 := getq (show a9.tmps.getD 115 undef = Value.slice (some { block := lb, off := off }) l.length c from haf ⟨4, .data⟩ (by simp) rfl)
                  have f5 := getq (show a9.tmps.getD 116 undef = Value.int IntKind.i64 ((j : Nat) : Int) from haf ⟨5, .data⟩ (by simp) rfl)
                  refine skip_good _ (wanted_none rfl) ?_
                  clear haf ho hsz2
                  intro K hK
                  simp only [List.getElem_toArray, List.getElem_cons_succ, List.getElem_cons_zero] at hK ⊢
                  go_simp
                  exact hK _ _ ⟨Below.refl _ _, hW, rfl⟩
                | 7, ho, haf =>
                  obtain rfl := Option.some.inj ho
                  have f6 := getq (show a9.tmps.getD 117 undef = .pointer (some ⟨lb, off + j * 4, none⟩) from haf ⟨6, .data⟩ (by simp) rfl)
                  refine skip_good _ (wanted_none rfl) ?_
                  have hx0 : a9.eval (Operand.tmp 117) = .pointer (some ⟨lb, off + j * 4, none⟩) := haf ⟨6, .data⟩ (by simp) rfl
                  clear haf ho hsz2
                  intro K hK
                  simp only [List.getElem_toArray, List.getElem_cons_succ, List.getElem_cons_zero] at hK ⊢
                  exact wp_load_mid 75 _ rfl lb (off + j * 4) hx0 [.int .i64 x.k, .int .i64 x.y, .int .i64 x.v, .int .i64 x.n] _ (hl0 w9 hW) Tryz.underlying75 rfl (by kernel_rfl) (hK _ _ ⟨Below.refl _ _, hW, rfl⟩)
                | 8, ho, haf =>
                  obtain rfl := Option.some.inj ho
                  refine skip_good _ (wanted_none rfl) ?_
                  clear haf ho hsz2
                  intro K hK
                  simp only [List.getElem_toArray, List.getElem_cons_succ, List.getElem_cons_zero] at hK ⊢
                  go_simp
                  exact hK _ _ ⟨Below.refl _ _, hW, rfl⟩
                | 9, ho, haf =>
                  obtain rfl := Option.some.inj ho
                  have f8 := getq (show a9.tmps.getD 119 undef = Value.int IntKind.i64 ((j : Nat) : Int) from haf ⟨8, .data⟩ (by simp) rfl)
                  refine skip_good _ (wanted_none rfl) ?_
                  clear haf ho hsz2
                  intro K hK
                  simp only [List.getElem_toArray, List.getElem_cons_succ, List.getElem_cons_zero] at hK ⊢
                  go_simp
                  exact hK _ _ ⟨Below.refl _ _, hW, (by first | rfl | (congr 1; rw [IntKind.wrap_i64]; omega))⟩
                | 10, ho, haf =>
                  obtain rfl := Option.some.inj ho
                  have f9 := getq (show a9.tmps.getD 120 undef = .int .i64 ((j : Int) + 1) from haf ⟨9, .data⟩ (by simp) rfl)
                  refine skip_good _ (wanted_none rfl) ?_
                  clear haf ho hsz2
                  intro K hK
                  simp only [List.getElem_toArray, List.getElem_cons_succ, List.getElem_cons_zero] at hK ⊢
                  go_simp
                  exact hK _ _ ⟨Below.refl _ _, hW, (by first | rfl | (congr 1; rw [IntKind.wrap_u64]; omega))⟩
                | 11, ho, haf =>
                  obtain rfl := Option.some.inj ho
                  have f7 := getq (show a9.tmps.getD 118 undef = .agg #[.int .i64 x.k, .int .i64 x.y, .int .i64 x.v, .int .i64 x.n] from haf ⟨7, .data⟩ (by simp) rfl)
                  have f10 := getq (show a9.tmps.getD 121 undef = .int .u64 ((j : Int) + 1) from haf ⟨10, .data⟩ (by simp) rfl)
                  refine skip_good _ (wanted_none rfl) ?_
                  clear haf ho hsz2
                  intro K hK
                  simp only [List.getElem_toArray, List.getElem_cons_succ, List.getElem_cons_zero] at hK ⊢
                  go_simp
                  refine Calls.mono (HREC.out w9) ?_
                  rintro e9 w8 ⟨rfl, hb9⟩
                  exact hK _ _ ⟨hb9, hW.trans (hb9.mono hW.size), rfl⟩
                | 12, ho, haf =>
                  obtain rfl := Option.some.inj ho
                  have f3 := getq (show a9.tmps.getD 114 undef = .agg #[.int .u64 ((j : Int) + 1), .int .i64 rk, .string rkey, .string rval] from haf ⟨3, .data⟩ (by simp) rfl)
                  have f11 := getq (show a9.tmps.getD 122 undef = .agg #[.int .u64 ((j : Int) + 1), .int .i64 rk, .string rkey, .string rval] from haf ⟨11, .data⟩ (by simp) rfl)
                  refine skip_good _ (wanted_none rfl) ?_
                  clear haf ho hsz2
                  intro K hK
                  simp only [List.getElem_toArray, List.getElem_cons_succ, List.getElem_cons_zero] at hK ⊢
                  go_simp
                  exact hK _ _ ⟨Below.refl _ _, hW, rfl⟩
                | 13, ho, haf =>
                  obtain rfl := Option.some.inj ho
                  have f12 := getq (show a9.tmps.getD 123 undef = .bool false from haf ⟨12, .data⟩ (by simp) rfl)
                  refine skip_good _ (wanted_none rfl) ?_
                  clear haf ho hsz2
                  intro K hK
                  simp only [List.getElem_toArray, List.getElem_cons_succ, List.getElem_cons_zero] at hK ⊢
                  go_simp
                  exact hK _ _ ⟨Below.refl _ _, hW, rfl⟩
                | 14, ho, haf =>
                  obtain rfl := Option.some.inj ho
                  have gg : a9.tmps.getD 124 undef = .bool false := haf ⟨13, .guard⟩ (by simp) rfl
                  refine skip_good _ (wanted_some rfl (yielded_of (d := 124) rfl (by omega) gg)) ?_
                  clear haf ho hsz2 gg
                  intro K hK
                  simp only [List.getElem_toArray, List.getElem_cons_succ, List.getElem_cons_zero] at hK ⊢
                  go_simp
                  exact hK _ _ ⟨Below.refl _ _, hW, rfl⟩
                | 15, ho, haf =>
                  obtain rfl := Option.some.inj ho
                  have gg : a9.tmps.getD 124 undef = .bool false := haf ⟨13, .guard⟩ (by simp) rfl
                  refine skip_good _ (wanted_some rfl (yielded_of (d := 124) rfl (by omega) gg)) ?_
                  clear haf ho hsz2 gg
                  intro K hK
                  simp only [List.getElem_toArray, List.getElem_cons_succ, List.getElem_cons_zero] at hK ⊢
                  go_simp
                  exact hK _ _ ⟨Below.refl _ _, hW, rfl⟩
                | 16, ho, haf =>
                  obtain rfl := Option.some.inj ho
                  have gg : a9.tmps.getD 124 undef = .bool false := haf ⟨13, .guard⟩ (by simp) rfl
                  have f15 := getq (show a9.tmps.getD 126 undef = Value.slice (some { block := gd, off := 0 }) p dc from haf ⟨15, .data⟩ (by simp) rfl)
                  refine skip_good _ (wanted_some rfl (yielded_of (d := 124) rfl (by omega) gg)) ?_
                  clear haf ho hsz2 gg
                  intro K hK
                  simp only [List.getElem_toArray, List.getElem_cons_succ, List.getElem_cons_zero] at hK ⊢
                  go_simp
                  exact hK _ _ ⟨Below.refl _ _, hW, rfl⟩
                | 17, ho, haf =>
                  obtain rfl := Option.some.inj ho
                  have gg : a9.tmps.getD 124 undef = .bool false := haf ⟨13, .guard⟩ (by simp) rfl
                  have f14 := getq (show a9.tmps.getD 125 undef = Value.int IntKind.i64 ((j : Nat) : Int) from haf ⟨14, .data⟩ (by simp) rfl)
                  have f16 := getq (show a9.tmps.getD 127 undef = .int .i64 ((p : Nat) : Int) from haf ⟨16, .data⟩ (by simp) rfl)
                  refine skip_good _ (wanted_some rfl (yielded_of (d := 124) rfl (by omega) gg)) ?_
                  clear haf ho hsz2 gg
                  intro K hK
                  simp only [List.getElem_toArray, List.getElem_cons_succ, List.getElem_cons_zero] at hK ⊢
                  go_simp
                  exact hK _ _ ⟨Below.refl _ _, hW, (by first | rfl | (simp only [Value.bool.injEq, decide_eq_false_iff_not]; omega) | (simp only [Value.bool.injEq, decide_eq_true_eq]; omega) | (simp; done) | (simp; omega))⟩
                | 18, ho, haf =>
                  obtain rfl := Option.some.inj ho
                  have gg : a9.tmps.getD 124 undef = .bool false := haf ⟨13, .guard⟩ (by simp) rfl
                  have f17 := getq (show a9.tmps.getD 128 undef = .bool true from haf ⟨17, .data⟩ (by simp) rfl)
                  refine skip_good _ (wanted_some rfl (yielded_of (d := 124) rfl (by omega) gg)) ?_
                  clear haf ho hsz2 gg
                  intro K hK
                  simp only [List.getElem_toArray, List.getElem_cons_succ, List.getElem_cons_zero] at hK ⊢
                  go_simp
                  exact hK _ _ ⟨Below.refl _ _, hW, rfl⟩
                | 19, ho, haf =>
                  obtain rfl := Option.some.inj ho
                  have gg : a9.tmps.getD 129 undef = .bool true := haf ⟨18, .guard⟩ (by simp) rfl
                  refine skip_good _ (wanted_some rfl (yielded_of (d := 129) rfl (by omega) gg)) ?_
                  clear haf ho hsz2 gg
                  intro K hK
                  simp only [List.getElem_toArray, List.getElem_cons_succ, List.getElem_cons_zero] at hK ⊢
                  go_simp
                  exact hK _ _ ⟨Below.refl _ _, hW, rfl⟩
                | 20, ho, haf =>
                  obtain rfl := Option.some.inj ho
                  have gg : a9.tmps.getD 129 undef = .bool true := haf ⟨18, .guard⟩ (by simp) rfl
                  refine skip_good _ (wanted_some rfl (yielded_of (d := 129) rfl (by omega) gg)) ?_
                  clear haf ho hsz2 gg
                  intro K hK
                  simp only [List.getElem_toArray, List.getElem_cons_succ, List.getElem_cons_zero] at hK ⊢
                  go_simp
                  exact hK _ _ ⟨Below.refl _ _, hW, rfl⟩
                | 21, ho, haf =>
                  obtain rfl := Option.some.inj ho
                  have gg : a9.tmps.getD 129 undef = .bool true := haf ⟨18, .guard⟩ (by simp) rfl
                  have f19 := getq (show a9.tmps.getD 130 undef = Value.slice (some { block := gd, off := 0 }) p dc from haf ⟨19, .data⟩ (by simp) rfl)
                  have f20 := getq (show a9.tmps.getD 131 undef = Value.int IntKind.i64 ((j : Nat) : Int) from haf ⟨20, .data⟩ (by simp) rfl)
                  refine skip_good _ (wanted_some rfl (yielded_of (d := 129) rfl (by omega) gg)) ?_
                  clear haf ho hsz2 gg
                  intro K hK
                  simp only [List.getElem_toArray, List.getElem_cons_succ, List.getElem_cons_zero] at hK ⊢
                  go_simp
                  exact hK _ _ ⟨Below.refl _ _, hW, rfl⟩
                | 22, ho, haf =>
                  obtain rfl := Option.some.inj ho
                  have gg : a9.tmps.getD 129 undef = .bool true := haf ⟨18, .guard⟩ (by simp) rfl
                  have f21 := getq (show a9.tmps.getD 132 undef = .pointer (some ⟨gd, j * 4, none⟩) from haf ⟨21, .data⟩ (by simp) rfl)
                  refine skip_good _ (wanted_some rfl (yielded_of (d := 129) rfl (by omega) gg)) ?_
                  have hx0 : a9.eval (Operand.tmp 132) = .pointer (some ⟨gd, j * 4, none⟩) := haf ⟨21, .data⟩ (by simp) rfl
                  clear haf ho hsz2 gg
                  intro K hK
                  simp only [List.getElem_toArray, List.getElem_cons_succ, List.getElem_cons_zero] at hK ⊢
                  exact wp_load_mid 38 _ rfl gd (j * 4) hx0 [.int .u64 ((j : Int) + 1), .int .i64 rk, .string rkey, .string rval] _ (hq0 w9 hW) Tryz.underlying38 rfl (by kernel_rfl) (hK _ _ ⟨Below.refl _ _, hW, rfl⟩)
                | 23, ho, haf =>
                  obtain rfl := Option.some.inj ho
                  have gg : a9.tmps.getD 129 undef = .bool true := haf ⟨18, .guard⟩ (by simp) rfl
                  refine skip_good _ (wanted_some rfl (yielded_of (d := 129) rfl (by omega) gg)) ?_
                  clear haf ho hsz2 gg
                  intro K hK
                  simp only [List.getElem_toArray, List.getElem_cons_succ, List.getElem_cons_zero] at hK ⊢
                  go_simp
                  exact hK _ _ ⟨Below.refl _ _, hW, rfl⟩
                | 24, ho, haf =>
                  obtain rfl := Option.some.inj ho
                  have gg : a9.tmps.getD 129 undef = .bool true := haf ⟨18, .guard⟩ (by simp) rfl
                  refine skip_good _ (wanted_some rfl (yielded_of (d := 129) rfl (by omega) gg)) ?_
                  clear haf ho hsz2 gg
                  intro K hK
                  simp only [List.getElem_toArray, List.getElem_cons_succ, List.getElem_cons_zero] at hK ⊢
                  go_simp
                  exact hK _ _ ⟨Below.refl _ _, hW, rfl⟩
                | 25, ho, haf =>
                  obtain rfl := Option.some.inj ho
                  have gg : a9.tmps.getD 129 undef = .bool true := haf ⟨18, .guard⟩ (by simp) rfl
                  have f23 := getq (show a9.tmps.getD 134 undef = Value.slice (some { block := ga, off := 0 }) k ac9 from haf ⟨23, .data⟩ (by simp) rfl)
                  have f24 := getq (show a9.tmps.getD 135 undef = Value.int IntKind.i64 ((j : Nat) : Int) from haf ⟨24, .data⟩ (by simp) rfl)
                  refine skip_good _ (wanted_some rfl (yielded_of (d := 129) rfl (by omega) gg)) ?_
                  clear haf ho hsz2 gg
                  intro K hK
                  simp only [List.getElem_toArray, List.getElem_cons_succ, List.getElem_cons_zero] at hK ⊢
                  go_simp
                  exact hK _ _ ⟨Below.refl _ _, hW, rfl⟩
                | 26, ho, haf =>
                  obtain rfl := Option.some.inj ho
                  have gg : a9.tmps.getD 129 undef = .bool true := haf ⟨18, .guard⟩ (by simp) rfl
                  have f25 := getq (show a9.tmps.getD 136 undef = .pointer (some ⟨ga, j * 4, none⟩) from haf ⟨25, .data⟩ (by simp) rfl)
                  refine skip_good _ (wanted_some rfl (yielded_of (d := 129) rfl (by omega) gg)) ?_
                  have hx0 : a9.eval (Operand.tmp 136) = .pointer (some ⟨ga, j * 4, none⟩) := haf ⟨25, .data⟩ (by simp) rfl
                  clear haf ho hsz2 gg
                  intro K hK
                  simp only [List.getElem_toArray, List.getElem_cons_succ, List.getElem_cons_zero] at hK ⊢
                  exact wp_load_mid 38 _ rfl ga (j * 4) hx0 [.int .u64 ((j : Int) + 1), .int .i64 rk, .string rkey, .string rval] _ (hr0 w9 hW) Tryz.underlying38 rfl (by kernel_rfl) (hK _ _ ⟨Below.refl _ _, hW, rfl⟩)
                | 27, ho, haf =>
                  obtain rfl := Option.some.inj ho
                  have gg : a9.tmps.getD 129 undef = .bool true := haf ⟨18, .guard⟩ (by simp) rfl
                  have f22 := getq (show a9.tmps.getD 133 undef = .agg #[.int .u64 ((j : Int) + 1), .int .i64 rk, .string rkey, .string rval] from haf ⟨22, .data⟩ (by simp) rfl)
                  have f26 := getq (show a9.tmps.getD 137 undef = .agg #[.int .u64 ((j : Int) + 1), .int .i64 rk, .string rkey, .string rval] from haf ⟨26, .data⟩ (by simp) rfl)
                  refine skip_good _ (wanted_some rfl (yielded_of (d := 129) rfl (by omega) gg)) ?_
                  clear haf ho hsz2 gg
                  intro K hK
                  simp only [List.getElem_toArray, List.getElem_cons_succ, List.getElem_cons_zero] at hK ⊢
                  go_simp
                  exact hK _ _ ⟨Below.refl _ _, hW, rfl⟩
                | 28, ho, haf =>
                  obtain rfl := Option.some.inj ho
                  have gg : a9.tmps.getD 124 undef = .bool false := haf ⟨13, .guard⟩ (by simp) rfl
                  have f18 := getq (show a9.tmps.getD 129 undef = .bool true from haf ⟨18, .data⟩ (by simp) rfl)
                  have f27 := getq (show a9.tmps.getD 138 undef = .bool false from haf ⟨27, .data⟩ (by simp) rfl)
                  refine skip_good _ (wanted_some rfl (yielded_of (d := 124) rfl (by omega) gg)) ?_
                  clear haf ho hsz2 gg
                  intro K hK
                  simp only [List.getElem_toArray, List.getElem_cons_succ, List.getElem_cons_zero] at hK ⊢
                  go_simp
                  exact hK _ _ ⟨Below.refl _ _, hW, rfl⟩
                | 29, ho, haf =>
                  obtain rfl := Option.some.inj ho
                  have f13 := getq (show a9.tmps.getD 124 undef = .bool false from haf ⟨13, .data⟩ (by simp) rfl)
                  have f28 := getq (show a9.tmps.getD 139 undef = .bool false from haf ⟨28, .data⟩ (by simp) rfl)
                  refine skip_good _ (wanted_none rfl) ?_
                  clear haf ho hsz2
                  intro K hK
                  simp only [List.getElem_toArray, List.getElem_cons_succ, List.getElem_cons_zero] at hK ⊢
                  go_simp
                  exact hK _ _ ⟨Below.refl _ _, hW, rfl⟩
                | n + 30, ho, haf => simp at ho
            · as_aux_lemma =>
                intro aa w9 hW hdf hsz hout hall
                have hat : aa.tmps = #[Value.slice (some { block := lb, off := off }) l.length c, Value.int IntKind.i64 lim, Value.int IntKind.i64 evy, Value.int IntKind.i64 keep, undef, undef, undef, undef, u8, Value.pointer (some { block := d, off := 0 }), Value.slice ua k uc, Value.int IntKind.i64 ((ls : Nat) : Int), Value.bool true, Value.pointer (some { block := d2, off := 0 }), u2, Value.int IntKind.i64 ((lastS [{ k := 1, y := 0, v := 0, n := 0 }] 1 : Nat) : Int), Value.bool true, Value.int IntKind.i64 ((k : Nat) : Int), u18, u19, Value.slice (some { block := ga, off := 0 }) k ac9, Value.slice (some { block := gd, off := 0 }) p dc, Value.int IntKind.i64 ((j : Nat) : Int), Value.tuple #[Value.pointer (some { block := d, off := 0 }), Value.slice ua k uc, Value.int IntKind.i64 ((ls : Nat) : Int), Value.bool true], Value.slice (some { block := lb, off := off }) l.length c, Value.int IntKind.i64 lim, Value.int IntKind.i64 evy, Value.tuple #[Value.pointer (some { block := d, off := 0 }), Value.slice ua k uc, Value.int IntKind.i64 ((ls : Nat) : Int), Value.bool true], Value.pointer (some { block := d, off := 0 }), Value.slice ua k uc, Value.int IntKind.i64 ((ls : Nat) : Int), Value.bool true, Value.tuple #[Value.pointer (some { block := d2, off := 0 }), u2, Value.int IntKind.i64 ((lastS [{ k := 1, y := 0, v := 0, n := 0 }] 1 : Nat) : Int), Value.bool true], Value.agg #[Value.int IntKind.i64 1, Value.int IntKind.i64 0, Value.int IntKind.i64 0, Value.int IntKind.i64 0], Value.slice (some { block := w1.heap.size, off := 0 }) 1 1, Value.tuple #[Value.pointer (some { block := d2, off := 0 }), u2, Value.int IntKind.i64 ((lastS [{ k := 1, y := 0, v := 0, n := 0 }] 1 : Nat) : Int), Value.bool true], Value.pointer (some { block := d2, off := 0 }), u2, Value.int IntKind.i64 ((lastS [{ k := 1, y := 0, v := 0, n := 0 }] 1 : Nat) : Int), Value.bool true, Value.bool true, Value.bool false, Value.bool false, Value.bool true, Value.bool false, Value.bool false, Value.bool false, Value.pointer (some { block := d2, off := 0 }), Value.slice fa 1 fc, Value.int IntKind.i64 1, Value.bool false, Value.bool false, Value.int IntKind.i64 ((k : Nat) : Int), Value.slice ua k uc, Value.int IntKind.i64 ((k : Nat) : Int), Value.bool false, u56, u57, u58, u59, u60, u61, u62, u63, u64, u65, u66, u67, u68, u69, u70, u71, u72, u73, u74, u75, u76, u77, u78, u79, u80, Value.pointer (some { block := d, off := 0 }), Value.slice (some { block := ga, off := 0 }) k ac9, Value.slice (some { block := ga, off := 0 }) k ac9, Value.int IntKind.i64 ((k : Nat) : Int), Value.slice ua k uc, Value.int IntKind.i64 ((k : Nat) : Int), Value.bool false, Value.pointer (some { block := d, off := 0 }), Value.int IntKind.i64 keep, Value.int IntKind.i64 ((kp : Nat) : Int), Value.int IntKind.i64 0, Value.pointer (some { block := d, off := 0 }), Value.slice (some { block := gd, off := 0 }) p dc, Value.slice (some { block := gd, off := 0 }) p dc, Value.int IntKind.i64 ((p : Nat) : Int), Value.int IntKind.i64 ((ls : Nat) : Int), Value.bool false, Value.bool false, Value.slice (some { block := gd, off := 0 }) p dc, Value.int IntKind.i64 ((p : Nat) : Int), Value.slice (some { block := ga, off := 0 }) k ac9, Value.int IntKind.i64 ((k : Nat) : Int), Value.bool false, Value.bool false, Value.int IntKind.i64 ((j : Nat) : Int), Value.slice (some { block := ga, off := 0 }) k ac9, Value.int IntKind.i64 ((k : Nat) : Int), Value.bool true, u109, u110, Value.slice (some { block := ga, off := 0 }) k ac9, Value.int IntKind.i64 ((j : Nat) : Int), .pointer (some ⟨ga, j * 4, none⟩), .agg #[.int .u64 ((j : Int) + 1), .int .i64 rk, .string rkey, .string rval], Value.slice (some { block := lb, off := off }) l.length c, Value.int IntKind.i64 ((j : Nat) : Int), .pointer (some ⟨lb, off + j * 4, none⟩), .agg #[.int .i64 x.k, .int .i64 x.y, .int .i64 x.v, .int .i64 x.n], Value.int IntKind.i64 ((j : Nat) : Int), .int .i64 ((j : Int) + 1), .int .u64 ((j : Int) + 1), .agg #[.int .u64 ((j : Int) + 1), .int .i64 rk, .string rkey, .string rval], .bool false, .bool false, Value.int IntKind.i64 ((j : Nat) : Int), Value.slice (some { block := gd, off := 0 }) p dc, .int .i64 ((p : Nat) : Int), .bool true, .bool true, Value.slice (some { block := gd, off := 0 }) p dc, Value.int IntKind.i64 ((j : Nat) : Int), .pointer (some ⟨gd, j * 4, none⟩), .agg #[.int .u64 ((j : Int) + 1), .int .i64 rk, .string rkey, .string rval], Value.slice (some { block := ga, off := 0 }) k ac9, Value.int IntKind.i64 ((j : Nat) : Int), .pointer (some ⟨ga, j * 4, none⟩), .agg #[.int .u64 ((j : Int) + 1), .int .i64 rk, .string rkey, .string rval], .bool false, .bool false, .bool false] := by
                  refine (tmps_of (lo := 111) (vs := [Value.slice (some { block := ga, off := 0 }) k ac9, Value.int IntKind.i64 ((j : Nat) : Int), .pointer (some ⟨ga, j * 4, none⟩), .agg #[.int .u64 ((j : Int) + 1), .int .i64 rk, .string rkey, .string rval], Value.slice (some { block := lb, off := off }) l.length c, Value.int IntKind.i64 ((j : Nat) : Int), .pointer (some ⟨lb, off + j * 4, none⟩), .agg #[.int .i64 x.k, .int .i64 x.y, .int .i64 x.v, .int .i64 x.n], Value.int IntKind.i64 ((j : Nat) : Int), .int .i64 ((j : Int) + 1), .int .u64 ((j : Int) + 1), .agg #[.int .u64 ((j : Int) + 1), .int .i64 rk, .string rkey, .string rval], .bool false, .bool false, Value.int IntKind.i64 ((j : Nat) : Int), Value.slice (some { block := gd, off := 0 }) p dc, .int .i64 ((p : Nat) : Int), .bool true, .bool true, Value.slice (some { block := gd, off := 0 }) p dc, Value.int IntKind.i64 ((j : Nat) : Int), .pointer (some ⟨gd, j * 4, none⟩), .agg #[.int .u64 ((j : Int) + 1), .int .i64 rk, .string rkey, .string rval], Value.slice (some { block := ga, off := 0 }) k ac9, Value.int IntKind.i64 ((j : Nat) : Int), .pointer (some ⟨ga, j * 4, none⟩), .agg #[.int .u64 ((j : Int) + 1), .int .i64 rk, .string rkey, .string rval], .bool false, .bool false, .bool false]) hsz (by kernel_rfl) (Nat.le_of_ble_eq_true (by kernel_rfl)) hout (fun i hi => ?_)).trans ?_
                  · match i, hi with
                    | 0, _ => exact hall 0 (by decide)
                    | 1, _ => exact hall 1 (by decide)
                    | 2, _ => exact hall 2 (by decide)
                    | 3, _ => exact hall 3 (by decide)
                    | 4, _ => exact hall 4 (by decide)
                    | 5, _ => exact hall 5 (by decide)
                    | 6, _ => exact hall 6 (by decide)
                    | 7, _ => exact hall 7 (by decide)
                    | 8, _ => exact hall 8 (by decide)
                    | 9, _ => exact hall 9 (by decide)
                    | 10, _ => exact hall 10 (by decide)
                    | 11, _ => exact hall 11 (by decide)
                    | 12, _ => exact hall 12 (by decide)
                    | 13, _ => exact hall 13 (by decide)
                    | 14, _ => exact hall 14 (by decide)
                    | 15, _ => exact hall 15 (by decide)
                    | 16, _ => exact hall 16 (by decide)
                    | 17, _ => exact hall 17 (by decide)
                    | 18, _ => exact hall 18 (by decide)
                    | 19, _ => exact hall 19 (by decide)
                    | 20, _ => exact hall 20 (by decide)
                    | 21, _ => exact hall 21 (by decide)
                    | 22, _ => exact hall 22 (by decide)
                    | 23, _ => exact hall 23 (by decide)
                    | 24, _ => exact hall 24 (by decide)
                    | 25, _ => exact hall 25 (by decide)
                    | 26, _ => exact hall 26 (by decide)
                    | 27, _ => exact hall 27 (by decide)
                    | 28, _ => exact hall 28 (by decide)
                    | 29, _ => exact hall 29 (by decide)
                    | n + 30, h => exact absurd h (by simp)
                  · rfl
                obtain ⟨tt, dd⟩ := aa
                simp only at hat hdf
                subst hat hdf
                clear hsz hout hall
                have HWF := hd (HBI.out.trans (hW.mono hsi))
                clear hW
                go_wp2_with fail
                go_roundw
                case rel => exact ⟨j + 1, HJK.out, by go_num, HWF.out⟩
                case measure => have := HJK.out; simp [intOf]; omega
          · have hjpi : ¬ ((j : Nat) : Int) < (p : Int) := by omega
            clear hat hrow hrj hgd hok hR hcc hbr
            go_wp2_with fail
            refine region_skip (fun i9 v9 _ => match i9 with
                | 0 => v9 = Value.slice (some { block := ga, off := 0 }) k ac9
                | 1 => v9 = Value.int IntKind.i64 ((j : Nat) : Int)
                | 2 => v9 = .pointer (some ⟨ga, j * 4, none⟩)
                | 3 => v9 = .agg #[.int .u64 ((j : Int) + 1), .int .i64 rk, .string rkey, .string rval]
                | 4 => v9 = Value.slice (some { block := lb, off := off }) l.length c
                | 5 => v9 = Value.int IntKind.i64 ((j : Nat) : Int)
                | 6 => v9 = .pointer (some ⟨lb, off + j * 4, none⟩)
                | 7 => v9 = .agg #[.int .i64 x.k, .int .i64 x.y, .int .i64 x.v, .int .i64 x.n]
                | 8 => v9 = Value.int IntKind.i64 ((j : Nat) : Int)
                | 9 => v9 = .int .i64 ((j : Int) + 1)
                | 10 => v9 = .int .u64 ((j : Int) + 1)
                | 11 => v9 = .agg #[.int .u64 ((j : Int) + 1), .int .i64 rk, .string rkey, .string rval]
                | 12 => v9 = .bool false
                | 13 => v9 = .bool false
                | 14 => v9 = Value.int IntKind.i64 ((j : Nat) : Int)
                | 15 => v9 = Value.slice da p dc
                | 16 => v9 = .int .i64 ((p : Nat) : Int)
                | 17 => v9 = .bool false
                | 18 => v9 = .bool false
                | 19 => v9 = undef
                | 20 => v9 = undef
                | 21 => v9 = undef
                | 22 => v9 = undef
                | 23 => v9 = undef
                | 24 => v9 = undef
                | 25 => v9 = undef
                | 26 => v9 = undef
                | 27 => v9 = undef
                | 28 => v9 = .bool false
                | _ => v9 = .bool false) (fun w => Below wi.heap.size wi w) hmx (by kernel_rfl) (by kernel_rfl) ((Below.refl _ _).drew) ?_ ?_ ?_
            · as_aux_lemma =>
                intro i9 v9 w8 w9 _ _ hb hG
                match i9, hG with
                | 0, h => exact h
                | 1, h => exact h
                | 2, h => exact h
                | 3, h => exact h
                | 4, h => exact h
                | 5, h => exact h
                | 6, h => exact h
                | 7, h => exact h
                | 8, h => exact h
                | 9, h => exact h
                | 10, h => exact h
                | 11, h => exact h
                | 12, h => exact h
                | 13, h => exact h
                | 14, h => exact h
                | 15, h => exact h
                | 16, h => exact h
                | 17, h => exact h
                | 18, h => exact h
                | 19, h => exact h
                | 20, h => exact h
                | 21, h => exact h
                | 22, h => exact h
                | 23, h => exact h
                | 24, h => exact h
                | 25, h => exact h
                | 26, h => exact h
                | 27, h => exact h
                | 28, h => exact h
                | n + 29, h => exact h
            · as_aux_lemma =>
                intro i9 o9 ho a9 w9 hW hdf hsz hout haf
                have ee0 := getq (show a9.tmps.getD 0 undef = Value.slice (some { block := lb, off := off }) l.length c from hout 0 (notDst_spec (by kernel_rfl)))
                have ee20 := getq (show a9.tmps.getD 20 undef = Value.slice (some { block := ga, off := 0 }) k ac9 from hout 20 (notDst_spec (by kernel_rfl)))
                have ee21 := getq (show a9.tmps.getD 21 undef = Value.slice da p dc from hout 21 (notDst_spec (by kernel_rfl)))
                have ee22 := getq (show a9.tmps.getD 22 undef = Value.int IntKind.i64 ((j : Nat) : Int) from hout 22 (notDst_spec (by kernel_rfl)))
                have hsz2 : a9.tmps.size = 141 := hsz
                clear hout hsz hdf
                match i9, ho, haf with
                | 0, ho, haf =>
                  obtain rfl := Option.some.inj ho
                  refine skip_good _ (wanted_none rfl) ?_
                  clear haf ho hsz2
                  intro K hK
                  simp only [List.getElem_toArray, List.getElem_cons_zero] at hK ⊢
                  go_simp
                  exact hK _ _ ⟨Below.refl _ _, hW, rfl⟩
                | 1, ho, haf =>
                  obtain rfl := Option.some.inj ho
                  refine skip_good _ (wanted_none rfl) ?_
                  clear haf ho hsz2
                  intro K hK
                  simp only [List.getElem_toArray, List.getElem_cons_succ, List.getElem_cons_zero] at hK ⊢
                  go_simp
                  exact hK _ _ ⟨Below.refl _ _, hW, rfl⟩
                | 2, ho, haf =>
                  obtain rfl := Option.some.inj ho
                  have f0 := getq (show a9.tmps.getD 111 undef = Value.slice (some { block := ga, off := 0 }) k ac9 from haf ⟨0, .data⟩ (by simp) rfl)
                  have f1 := getq (show a9.tmps.getD 112 undef = Value.int IntKind.i64 ((j : Nat) : Int) from haf ⟨1, .data⟩ (by simp) rfl)
                  refine skip_good _ (wanted_none rfl) ?_
                  clear haf ho hsz2
                  intro K hK
                  simp only [List.getElem_toArray, List.getElem_cons_succ, List.getElem_cons_zero] at hK ⊢
                  go_simp
                  exact hK _ _ ⟨Below.refl _ _, hW, rfl⟩
                | 3, ho, haf =>
                  obtain rfl := Option.some.inj ho
                  have f2 := getq (show a9.tmps.getD 113 undef = .pointer (some ⟨ga, j * 4, none⟩) from haf ⟨2, .data⟩ (by simp) rfl)
                  refine skip_good _ (wanted_none rfl) ?_
                  have hx0 : a9.eval (Operand.tmp 113) = .pointer (some ⟨ga, j * 4, none⟩) := haf ⟨2, .data⟩ (by simp) rfl
                  clear haf ho hsz2
                  intro K hK
                  simp only [List.getElem_toArray, List.getElem_cons_succ, List.getElem_cons_zero] at hK ⊢
                  exact wp_load_mid 38 _ rfl ga (j * 4) hx0 [.int .u64 ((j : Int) + 1), .int .i64 rk, .string rkey, .string rval] _ (hr0 w9 hW) Tryz.underlying38 rfl (by kernel_rfl) (hK _ _ ⟨Below.refl _ _, hW, rfl⟩)
                | 4, ho, haf =>
                  obtain rfl := Option.some.inj ho
                  refine skip_good _ (wanted_none rfl) ?_
                  clear haf ho hsz2
                  intro K hK
                  simp only [List.getElem_toArray, List.getElem_cons_succ, List.getElem_cons_zero] at hK ⊢
                  go_simp
                  exact hK _ _ ⟨Below.refl _ _, hW, rfl⟩
                | 5, ho, haf =>
                  obtain rfl := Option.some.inj ho
                  refine skip_good _ (wanted_none rfl) ?_
                  clear haf ho hsz2
                  intro K hK
                  simp only [List.getElem_toArray, List.getElem_cons_succ, List.getElem_cons_zero] at hK ⊢
                  go_simp
                  exact hK _ _ ⟨Below.refl _ _, hW, rfl⟩
                | 6, ho, haf =>
                  obtain rfl := Option.some.inj ho
                  have f4 := getq (show a9.tmps.getD 115 undef = Value.slice (some { block := lb, off := off }) l.length c from haf ⟨4, .data⟩ (by simp) rfl)
                  have f5 := getq (show a9.tmps.getD 116 undef = Value.int IntKind.i64 ((j : Nat) : Int) from haf ⟨5, .data⟩ (by simp) rfl)
                  refine skip_good _ (wanted_none rfl) ?_
                  clear haf ho hsz2
                  intro K hK
                  simp only [List.getElem_toArray, List.getElem_cons_succ, List.getElem_cons_zero] at hK ⊢
                  go_simp
                  exact hK _ _ ⟨Below.refl _ _, hW, rfl⟩
                | 7, ho, haf =>
                  obtain rfl := Option.some.inj ho
                  have f6 := getq (show a9.tmps.getD 117 undef = .pointer (some ⟨lb, off + j * 4, none⟩) from haf ⟨6, .data⟩ (by simp) rfl)
                  refine skip_good _ (wanted_none rfl) ?_
                  have hx0 : a9.eval (Operand.tmp 117) = .pointer (some ⟨lb, off + j * 4, none⟩) := haf ⟨6, .data⟩ (by simp) rfl
                  clear haf ho hsz2
                  intro K hK
                  simp only [List.getElem_toArray, List.getElem_cons_succ, List.getElem_cons_zero] at hK ⊢
                  exact wp_load_mid 75 _ rfl lb (off + j * 4) hx0 [.int .i64 x.k, .int .i64 x.y, .int .i64 x.v, .int .i64 x.n] _ (hl0 w9 hW) Tryz.underlying75 rfl (by kernel_rfl) (hK _ _ ⟨Below.refl _ _, hW, rfl⟩)
                | 8, ho, haf =>
                  obtain rfl := Option.some.inj ho
                  refine skip_good _ (wanted_none rfl) ?_
                  clear haf ho hsz2
                  intro K hK
                  simp only [List.getElem_toArray, List.getElem_cons_succ, List.getElem_cons_zero] at hK ⊢
                  go_simp
                  exact hK _ _ ⟨Below.refl _ _, hW, rfl⟩
                | 9, ho, haf =>
                  obtain rfl := Option.some.inj ho
                  have f8 := getq (show a9.tmps.getD 119 undef = Value.int IntKind.i64 ((j : Nat) : Int) from haf ⟨8, .data⟩ (by simp) rfl)
                  refine skip_good _ (wanted_none rfl) ?_
                  clear haf ho hsz2
                  intro K hK
                  simp only [List.getElem_toArray, List.getElem_cons_succ, List.getElem_cons_zero] at hK ⊢
                  go_simp
                  exact hK _ _ ⟨Below.refl _ _, hW, (by first | rfl | (congr 1; rw [IntKind.wrap_i64]; omega))⟩
                | 10, ho, haf =>
                  obtain rfl := Option.some.inj ho
                  have f9 := getq (show a9.tmps.getD 120 undef = .int .i64 ((j : Int) + 1) from haf ⟨9, .data⟩ (by simp) rfl)
                  refine skip_good _ (wanted_none rfl) ?_
                  clear haf ho hsz2
                  intro K hK
                  simp only [List.getElem_toArray, List.getElem_cons_succ, List.getElem_cons_zero] at hK ⊢
                  go_simp
                  exact hK _ _ ⟨Below.refl _ _, hW, (by first | rfl | (congr 1; rw [IntKind.wrap_u64]; omega))⟩
                | 11, ho, haf =>
                  obtain rfl := Option.some.inj ho
                  have f7 := getq (show a9.tmps.getD 118 undef = .agg #[.int .i64 x.k, .int .i64 x.y, .int .i64 x.v, .int .i64 x.n] from haf ⟨7, .data⟩ (by simp) rfl)
                  have f10 := getq (show a9.tmps.getD 121 undef = .int .u64 ((j : Int) + 1) from haf ⟨10, .data⟩ (by simp) rfl)
                  refine skip_good _ (wanted_none rfl) ?_
                  clear haf ho hsz2
                  intro K hK
                  simp only [List.getElem_toArray, List.getElem_cons_succ, List.getElem_cons_zero] at hK ⊢
                  go_simp
                  refine Calls.mono (HREC.out w9) ?_
                  rintro e9 w8 ⟨rfl, hb9⟩
                  exact hK _ _ ⟨hb9, hW.trans (hb9.mono hW.size), rfl⟩
                | 12, ho, haf =>
                  obtain rfl := Option.some.inj ho
                  have f3 := getq (show a9.tmps.getD 114 undef = .agg #[.int .u64 ((j : Int) + 1), .int .i64 rk, .string rkey, .string rval] from haf ⟨3, .data⟩ (by simp) rfl)
                  have f11 := getq (show a9.tmps.getD 122 undef = .agg #[.int .u64 ((j : Int) + 1), .int .i64 rk, .string rkey, .string rval] from haf ⟨11, .data⟩ (by simp) rfl)
                  refine skip_good _ (wanted_none rfl) ?_
                  clear haf ho hsz2
                  intro K hK
                  simp only [List.getElem_toArray, List.getElem_cons_succ, List.getElem_cons_zero] at hK ⊢
                  go_simp
                  exact hK _ _ ⟨Below.refl _ _, hW, rfl⟩
                | 13, ho, haf =>
                  obtain rfl := Option.some.inj ho
                  have f12 := getq (show a9.tmps.getD 123 undef = .bool false from haf ⟨12, .data⟩ (by simp) rfl)
                  refine skip_good _ (wanted_none rfl) ?_
                  clear haf ho hsz2
                  intro K hK
                  simp only [List.getElem_toArray, List.getElem_cons_succ, List.getElem_cons_zero] at hK ⊢
                  go_simp
                  exact hK _ _ ⟨Below.refl _ _, hW, rfl⟩
                | 14, ho, haf =>
                  obtain rfl := Option.some.inj ho
                  have gg : a9.tmps.getD 124 undef = .bool false := haf ⟨13, .guard⟩ (by simp) rfl
                  refine skip_good _ (wanted_some rfl (yielded_of (d := 124) rfl (by omega) gg)) ?_
                  clear haf ho hsz2 gg
                  intro K hK
                  simp only [List.getElem_toArray, List.getElem_cons_succ, List.getElem_cons_zero] at hK ⊢
                  go_simp
                  exact hK _ _ ⟨Below.refl _ _, hW, rfl⟩
                | 15, ho, haf =>
                  obtain rfl := Option.some.inj ho
                  have gg : a9.tmps.getD 124 undef = .bool false := haf ⟨13, .guard⟩ (by simp) rfl
                  refine skip_good _ (wanted_some rfl (yielded_of (d := 124) rfl (by omega) gg)) ?_
                  clear haf ho hsz2 gg
                  intro K hK
                  simp only [List.getElem_toArray, List.getElem_cons_succ, List.getElem_cons_zero] at hK ⊢
                  go_simp
                  exact hK _ _ ⟨Below.refl _ _, hW, rfl⟩
                | 16, ho, haf =>
                  obtain rfl := Option.some.inj ho
                  have gg : a9.tmps.getD 124 undef = .bool false := haf ⟨13, .guard⟩ (by simp) rfl
                  have f15 := getq (show a9.tmps.getD 126 undef = Value.slice da p dc from haf ⟨15, .data⟩ (by simp) rfl)
                  refine skip_good _ (wanted_some rfl (yielded_of (d := 124) rfl (by omega) gg)) ?_
                  clear haf ho hsz2 gg
                  intro K hK
                  simp only [List.getElem_toArray, List.getElem_cons_succ, List.getElem_cons_zero] at hK ⊢
                  go_simp
                  exact hK _ _ ⟨Below.refl _ _, hW, rfl⟩
                | 17, ho, haf =>
                  obtain rfl := Option.some.inj ho
                  have gg : a9.tmps.getD 124 undef = .bool false := haf ⟨13, .guard⟩ (by simp) rfl
                  have f14 := getq (show a9.tmps.getD 125 undef = Value.int IntKind.i64 ((j : Nat) : Int) from haf ⟨14, .data⟩ (by simp) rfl)
                  have f16 := getq (show a9.tmps.getD 127 undef = .int .i64 ((p : Nat) : Int) from haf ⟨16, .data⟩ (by simp) rfl)
                  refine skip_good _ (wanted_some rfl (yielded_of (d := 124) rfl (by omega) gg)) ?_
                  clear haf ho hsz2 gg
                  intro K hK
                  simp only [List.getElem_toArray, List.getElem_cons_succ, List.getElem_cons_zero] at hK ⊢
                  go_simp
                  exact hK _ _ ⟨Below.refl _ _, hW, (by first | rfl | (simp only [Value.bool.injEq, decide_eq_false_iff_not]; omega) | (simp only [Value.bool.injEq, decide_eq_true_eq]; omega) | (simp; done) | (simp; omega))⟩
                | 18, ho, haf =>
                  obtain rfl := Option.some.inj ho
                  have gg : a9.tmps.getD 124 undef = .bool false := haf ⟨13, .guard⟩ (by simp) rfl
                  have f17 := getq (show a9.tmps.getD 128 undef = .bool false from haf ⟨17, .data⟩ (by simp) rfl)
                  refine skip_good _ (wanted_some rfl (yielded_of (d := 124) rfl (by omega) gg)) ?_
                  clear haf ho hsz2 gg
                  intro K hK
                  simp only [List.getElem_toArray, List.getElem_cons_succ, List.getElem_cons_zero] at hK ⊢
                  go_simp
                  exact hK _ _ ⟨Below.refl _ _, hW, rfl⟩
                | 19, ho, haf =>
                  obtain rfl := Option.some.inj ho
                  have gg : a9.tmps.getD 129 undef = .bool false := haf ⟨18, .guard⟩ (by simp) rfl
                  exact skip_no (b := false) rfl (yielded_of (d := 129) rfl (by omega) gg) rfl
                | 20, ho, haf =>
                  obtain rfl := Option.some.inj ho
                  have gg : a9.tmps.getD 129 undef = .bool false := haf ⟨18, .guard⟩ (by simp) rfl
                  exact skip_no (b := false) rfl (yielded_of (d := 129) rfl (by omega) gg) rfl
                | 21, ho, haf =>
                  obtain rfl := Option.some.inj ho
                  have gg : a9.tmps.getD 129 undef = .bool false := haf ⟨18, .guard⟩ (by simp) rfl
                  exact skip_no (b := false) rfl (yielded_of (d := 129) rfl (by omega) gg) rfl
                | 22, ho, haf =>
                  obtain rfl := Option.some.inj ho
                  have gg : a9.tmps.getD 129 undef = .bool false := haf ⟨18, .guard⟩ (by simp) rfl
                  exact skip_no (b := false) rfl (yielded_of (d := 129) rfl (by omega) gg) rfl
                | 23, ho, haf =>
                  obtain rfl := Option.some.inj ho
                  have gg : a9.tmps.getD 129 undef = .bool false := haf ⟨18, .guard⟩ (by simp) rfl
                  exact skip_no (b := false) rfl (yielded_of (d := 129) rfl (by omega) gg) rfl
                | 24, ho, haf =>
                  obtain rfl := Option.some.inj ho
                  have gg : a9.tmps.getD 129 undef = .bool false := haf ⟨18, .guard⟩ (by simp) rfl
                  exact skip_no (b := false) rfl (yielded_of (d := 129) rfl (by omega) gg) rfl
                | 25, ho, haf =>
                  obtain rfl := Option.some.inj ho
                  have gg : a9.tmps.getD 129 undef = .bool false := haf ⟨18, .guard⟩ (by simp) rfl
                  exact skip_no (b := false) rfl (yielded_of (d := 129) rfl (by omega) gg) rfl
                | 26, ho, haf =>
                  obtain rfl := Option.some.inj ho
                  have gg : a9.tmps.getD 129 undef = .bool false := haf ⟨18, .guard⟩ (by simp) rfl
                  exact skip_no (b := false) rfl (yielded_of (d := 129) rfl (by omega) gg) rfl
                | 27, ho, haf =>
                  obtain rfl := Option.some.inj ho
                  have gg : a9.tmps.getD 129 undef = .bool false := haf ⟨18, .guard⟩ (by simp) rfl
                  exact skip_no (b := false) rfl (yielded_of (d := 129) rfl (by omega) gg) rfl
                | 28, ho, haf =>
                  obtain rfl := Option.some.inj ho
                  have gg : a9.tmps.getD 124 undef = .bool false := haf ⟨13, .guard⟩ (by simp) rfl
                  have f18 := getq (show a9.tmps.getD 129 undef = .bool false from haf ⟨18, .data⟩ (by simp) rfl)
                  have f27 := getq (show a9.tmps.getD 138 undef = undef from haf ⟨27, .data⟩ (by simp) rfl)
                  refine skip_good _ (wanted_some rfl (yielded_of (d := 124) rfl (by omega) gg)) ?_
                  clear haf ho hsz2 gg
                  intro K hK
                  simp only [List.getElem_toArray, List.getElem_cons_succ, List.getElem_cons_zero] at hK ⊢
                  go_simp
                  exact hK _ _ ⟨Below.refl _ _, hW, rfl⟩
                | 29, ho, haf =>
                  obtain rfl := Option.some.inj ho
                  have f13 := getq (show a9.tmps.getD 124 undef = .bool false from haf ⟨13, .data⟩ (by simp) rfl)
                  have f28 := getq (show a9.tmps.getD 139 undef = .bool false from haf ⟨28, .data⟩ (by simp) rfl)
                  refine skip_good _ (wanted_none rfl) ?_
                  clear haf ho hsz2
                  intro K hK
                  simp only [List.getElem_toArray, List.getElem_cons_succ, List.getElem_cons_zero] at hK ⊢
                  go_simp
                  exact hK _ _ ⟨Below.refl _ _, hW, rfl⟩
                | n + 30, ho, haf => simp at ho
            · as_aux_lemma =>
                intro aa w9 hW hdf hsz hout hall
                have hat : aa.tmps = #[Value.slice (some { block := lb, off := off }) l.length c, Value.int IntKind.i64 lim, Value.int IntKind.i64 evy, Value.int IntKind.i64 keep, undef, undef, undef, undef, u8, Value.pointer (some { block := d, off := 0 }), Value.slice ua k uc, Value.int IntKind.i64 ((ls : Nat) : Int), Value.bool true, Value.pointer (some { block := d2, off := 0 }), u2, Value.int IntKind.i64 ((lastS [{ k := 1, y := 0, v := 0, n := 0 }] 1 : Nat) : Int), Value.bool true, Value.int IntKind.i64 ((k : Nat) : Int), u18, u19, Value.slice (some { block := ga, off := 0 }) k ac9, Value.slice da p dc, Value.int IntKind.i64 ((j : Nat) : Int), Value.tuple #[Value.pointer (some { block := d, off := 0 }), Value.slice ua k uc, Value.int IntKind.i64 ((ls : Nat) : Int), Value.bool true], Value.slice (some { block := lb, off := off }) l.length c, Value.int IntKind.i64 lim, Value.int IntKind.i64 evy, Value.tuple #[Value.pointer (some { block := d, off := 0 }), Value.slice ua k uc, Value.int IntKind.i64 ((ls : Nat) : Int), Value.bool true], Value.pointer (some { block := d, off := 0 }), Value.slice ua k uc, Value.int IntKind.i64 ((ls : Nat) : Int), Value.bool true, Value.tuple #[Value.pointer (some { block := d2, off := 0 }), u2, Value.int IntKind.i64 ((lastS [{ k := 1, y := 0, v := 0, n := 0 }] 1 : Nat) : Int), Value.bool true], Value.agg #[Value.int IntKind.i64 1, Value.int IntKind.i64 0, Value.int IntKind.i64 0, Value.int IntKind.i64 0], Value.slice (some { block := w1.heap.size, off := 0 }) 1 1, Value.tuple #[Value.pointer (some { block := d2, off := 0 }), u2, Value.int IntKind.i64 ((lastS [{ k := 1, y := 0, v := 0, n := 0 }] 1 : Nat) : Int), Value.bool true], Value.pointer (some { block := d2, off := 0 }), u2, Value.int IntKind.i64 ((lastS [{ k := 1, y := 0, v := 0, n := 0 }] 1 : Nat) : Int), Value.bool true, Value.bool true, Value.bool false, Value.bool false, Value.bool true, Value.bool false, Value.bool false, Value.bool false, Value.pointer (some { block := d2, off := 0 }), Value.slice fa 1 fc, Value.int IntKind.i64 1, Value.bool false, Value.bool false, Value.int IntKind.i64 ((k : Nat) : Int), Value.slice ua k uc, Value.int IntKind.i64 ((k : Nat) : Int), Value.bool false, u56, u57, u58, u59, u60, u61, u62, u63, u64, u65, u66, u67, u68, u69, u70, u71, u72, u73, u74, u75, u76, u77, u78, u79, u80, Value.pointer (some { block := d, off := 0 }), Value.slice (some { block := ga, off := 0 }) k ac9, Value.slice (some { block := ga, off := 0 }) k ac9, Value.int IntKind.i64 ((k : Nat) : Int), Value.slice ua k uc, Value.int IntKind.i64 ((k : Nat) : Int), Value.bool false, Value.pointer (some { block := d, off := 0 }), Value.int IntKind.i64 keep, Value.int IntKind.i64 ((kp : Nat) : Int), Value.int IntKind.i64 0, Value.pointer (some { block := d, off := 0 }), Value.slice da p dc, Value.slice da p dc, Value.int IntKind.i64 ((p : Nat) : Int), Value.int IntKind.i64 ((ls : Nat) : Int), Value.bool false, Value.bool false, Value.slice da p dc, Value.int IntKind.i64 ((p : Nat) : Int), Value.slice (some { block := ga, off := 0 }) k ac9, Value.int IntKind.i64 ((k : Nat) : Int), Value.bool false, Value.bool false, Value.int IntKind.i64 ((j : Nat) : Int), Value.slice (some { block := ga, off := 0 }) k ac9, Value.int IntKind.i64 ((k : Nat) : Int), Value.bool true, u109, u110, Value.slice (some { block := ga, off := 0 }) k ac9, Value.int IntKind.i64 ((j : Nat) : Int), .pointer (some ⟨ga, j * 4, none⟩), .agg #[.int .u64 ((j : Int) + 1), .int .i64 rk, .string rkey, .string rval], Value.slice (some { block := lb, off := off }) l.length c, Value.int IntKind.i64 ((j : Nat) : Int), .pointer (some ⟨lb, off + j * 4, none⟩), .agg #[.int .i64 x.k, .int .i64 x.y, .int .i64 x.v, .int .i64 x.n], Value.int IntKind.i64 ((j : Nat) : Int), .int .i64 ((j : Int) + 1), .int .u64 ((j : Int) + 1), .agg #[.int .u64 ((j : Int) + 1), .int .i64 rk, .string rkey, .string rval], .bool false, .bool false, Value.int IntKind.i64 ((j : Nat) : Int), Value.slice da p dc, .int .i64 ((p : Nat) : Int), .bool false, .bool false, undef, undef, undef, undef, undef, undef, undef, undef, undef, .bool false, .bool false] := by
                  refine (tmps_of (lo := 111) (vs := [Value.slice (some { block := ga, off := 0 }) k ac9, Value.int IntKind.i64 ((j : Nat) : Int), .pointer (some ⟨ga, j * 4, none⟩), .agg #[.int .u64 ((j : Int) + 1), .int .i64 rk, .string rkey, .string rval], Value.slice (some { block := lb, off := off }) l.length c, Value.int IntKind.i64 ((j : Nat) : Int), .pointer (some ⟨lb, off + j * 4, none⟩), .agg #[.int .i64 x.k, .int .i64 x.y, .int .i64 x.v, .int .i64 x.n], Value.int IntKind.i64 ((j : Nat) : Int), .int .i64 ((j : Int) + 1), .int .u64 ((j : Int) + 1), .agg #[.int .u64 ((j : Int) + 1), .int .i64 rk, .string rkey, .string rval], .bool false, .bool false, Value.int IntKind.i64 ((j : Nat) : Int), Value.slice da p dc, .int .i64 ((p : Nat) : Int), .bool false, .bool false, undef, undef, undef, undef, undef, undef, undef, undef, undef, .bool false, .bool false]) hsz (by kernel_rfl) (Nat.le_of_ble_eq_true (by kernel_rfl)) hout (fun i hi => ?_)).trans ?_
                  · match i, hi with
                    | 0, _ => exact hall 0 (by decide)
                    | 1, _ => exact hall 1 (by decide)
                    | 2, _ => exact hall 2 (by decide)
                    | 3, _ => exact hall 3 (by decide)
                    | 4, _ => exact hall 4 (by decide)
                    | 5, _ => exact hall 5 (by decide)
                    | 6, _ => exact hall 6 (by decide)
                    | 7, _ => exact hall 7 (by decide)
                    | 8, _ => exact hall 8 (by decide)
                    | 9, _ => exact hall 9 (by decide)
                    | 10, _ => exact hall 10 (by decide)
                    | 11, _ => exact hall 11 (by decide)
                    | 12, _ => exact hall 12 (by decide)
                    | 13, _ => exact hall 13 (by decide)
                    | 14, _ => exact hall 14 (by decide)
                    | 15, _ => exact hall 15 (by decide)
                    | 16, _ => exact hall 16 (by decide)
                    | 17, _ => exact hall 17 (by decide)
                    | 18, _ => exact hall 18 (by decide)
                    | 19, _ => exact hall 19 (by decide)
                    | 20, _ => exact hall 20 (by decide)
                    | 21, _ => exact hall 21 (by decide)
                    | 22, _ => exact hall 22 (by decide)
                    | 23, _ => exact hall 23 (by decide)
                    | 24, _ => exact hall 24 (by decide)
                    | 25, _ => exact hall 25 (by decide)
                    | 26, _ => exact hall 26 (by decide)
                    | 27, _ => exact hall 27 (by decide)
                    | 28, _ => exact hall 28 (by decide)
                    | 29, _ => exact hall 29 (by decide)
                    | n + 30, h => exact absurd h (by simp)
                  · rfl
                obtain ⟨tt, dd⟩ := aa
                simp only at hat hdf
                subst hat hdf
                clear hsz hout hall
                have HWF := hd (HBI.out.trans (hW.mono hsi))
                clear hW
                go_wp2_with fail
                go_roundw
                case rel => exact ⟨j + 1, HJK.out, by go_num, HWF.out⟩
                case measure => have := HJK.out; simp [intOf]; omega
        · have hji : ¬ ((j : Nat) : Int) < (k : Int) := by omega
          clear hj hjk
          go_wp2_with fail
          go_ret
          exact ⟨rfl, HBD.out.trans (HBI.out.mono (by omega))⟩
end Sg
end Go.Proofs.YtolddolfpnkndaaGreat
