/-
  THE WALK OF the theorems' own records: all records of a disk's files.
  WHAT A CRASH LEAVES OF RECORDS, PLAINLY: a beginning of them, with all that were synced.
-/
import Derived.Test.YtolddolfpnkndaaGreatXtbx
import Derived.Test.YtolddolfpnkndaaGreatXtbw
import Derived.Test.YtolddolfpnkndaaGreatXtbk
import Derived.Deep.MidRow
import Derived.Test.YtolddolfpnkndaaGreatXtbt
namespace Go.Proofs.YtolddolfpnkndaaGreat
open Go.RowKit Go.Maps Go.Sort Go.ChangeShapes Go.WideShapes Go.ChangeAt Go.Shelf
namespace Sg
open Vt Dk
abbrev TRec : TypeId := 38
theorem info_trec : (Tryz.prog.info? TRec).map (fun i => (i.zero, i.size, i.bytes)) = some (some (.agg #[.int .u64 0, .int .i64 0, .string ⟨#[]⟩, .string ⟨#[]⟩]), 4, 48) := by kernel_rfl
/-- a record's cells -/
def rvl (r : Rec) : List Value := [.int .u64 (r.lsn : Int), .int .i64 r.kind, .string r.key, .string r.val]
theorem rvl_one (r : Rec) : ∀ u ∈ rvl r, u.oneCell' = true := by
  intro u hu
  simp only [rvl, List.mem_cons, List.mem_nil_iff, or_false] at hu
  rcases hu with rfl | rfl | rfl | rfl <;> rfl
/-- the records of a list of bytes, of files -/
noncomputable def rcl (l : List Nat) : List Rec := (recs [1, 2] l).map fun x => x.2.2.r
noncomputable def rcT (T : List (ByteArray × List Nat)) : List Rec := (T.map fun f => rcl f.2).flatten
theorem rcT_next {T : List (ByteArray × List Nat)} {j : Nat} {s : ByteArray} {x : List Nat} (h : T[j]? = some (s, x)) : rcT (T.take (j + 1)) = rcT (T.take j) ++ rcl x := by
  unfold rcT
  rw [List.take_add_one, h, Option.toList_some, List.map_append, List.flatten_append]
  simp
theorem tfls_below {w w' : World} {lo : Nat} {v : Value} {l : List (ByteArray × List Nat)} (h : FLs w lo v l) (hb : Below w.heap.size w w') : FLs w' lo v l := h.same fun g _ h2 => hb.block g h2
set_option pp.maxSteps 1000000 in

set_option maxRecDepth 100000 in
set_option maxHeartbeats 4000000 in
theorem trecords_is (w : World) (d : Nat) (O : Nat → Prop) (S : Ds) (h : DK w d O S) (ha : S.acts < 1000000) (hlen : ∀ f ∈ Dk.told S true, f.2.length ≤ 1000000) (htl : (Dk.told S true).length ≤ 3000) (hrt : (rcT (Dk.told S true)).length ≤ 1000) :
    Calls Tryz.prog 21 #[.pointer (some ⟨d, 0, none⟩)] w fun e w' => ∃ v, e = .returned v ∧ JR TRec 4 w' w.heap.size v ((rcT (Dk.told S true)).map rvl) ∧ Below w.heap.size w w' := by
  have hmx : Tryz.prog.follows .mixedOrders = true := by kernel_rfl
  have HFI := hd (files_is w d O S h (by omega))
  obtain ⟨T, hT⟩ : ∃ T, T = Dk.told S true := ⟨_, rfl⟩
  rw [← hT] at HFI hlen htl hrt ⊢
  clear h hT
  have HLE := hd hlen
  have HRT := hd hrt
  clear hlen hrt
  go_enter Tryz.func21, Tryz.ntmps21
  go_wp2_with fail
  refine Calls.mono HFI.out ?_
  rintro e w8 ⟨vf, rfl, hF8, hb8⟩
  obtain ⟨fa, fc, hfs, hfc⟩ := hF8.shape
  subst hfs
  have HF8 := hd hF8
  have HB8 := hd hb8
  have hs8 := hb8.size
  obtain ⟨m, hm⟩ : ∃ m, m = T.length := ⟨_, rfl⟩
  have HM := hd hm
  rw [← hm] at hfc htl ⊢
  clear hF8 hb8 HFI hm
  go_wp2_with fail
  go_loopw [3, 5] (fun o i wr => ∃ (j : Nat) (oa : Option Addr) (oc : Nat), j ≤ m ∧ i = .int .i64 (j : Int) ∧ o = .slice oa (rcT (T.take j)).length oc ∧ JR TRec 4 wr w8.heap.size o ((rcT (T.take j)).map rvl) ∧ Below w8.heap.size w8 wr) (fun _ i _ => m - (intOf i).toNat)
  case atStart => exact ⟨0, none, 0, by omega, rfl, rfl, jr_nil _ _, Below.refl _ _⟩
  case round =>
    obtain ⟨j, oa, oc, hj, rfl, rfl, hJ, hB⟩ := hrel
    obtain ⟨wb, hwb⟩ : ∃ wb, wb = wr := ⟨_, rfl⟩
    subst hwb
    have HJ := hd hJ
    have HBB := hd hB
    have hsb := hB.size
    have hocm : oc ≤ maxLen := by
      obtain ⟨_, _, ⟨e, _⟩ | ⟨_, _, _, e, _, _, _, hm, _⟩⟩ := hJ
      · injection e with _ _ e; rw [e]; exact Nat.zero_le _
      · injection e with _ _ e; rw [e]; exact hm
    clear hJ hB
    obtain ⟨L0, hL0⟩ : ∃ L0, L0 = rcT (T.take j) := ⟨_, rfl⟩
    rw [← hL0] at HJ ⊢
    have HL0 := hd hL0
    clear hL0
    by_cases hjt : j < m
    · have hji : ((j : Nat) : Int) < (m : Int) := by omega
      have HJT : Hid (j + 1 ≤ m) := hjt
      obtain ⟨⟨s, D⟩, hTj⟩ : ∃ x, T[j]? = some x := ⟨_, List.getElem?_eq_getElem (by rw [← HM.out]; exact hjt)⟩
      have hDl : D.length ≤ 1000000 := HLE.out (s, D) (List.mem_of_getElem? hTj)
      have hnx := rcT_next hTj
      have hF := tfls_below HF8.out HBB.out
      obtain ⟨g, c9, ua9, uc9, e9, _, hcm9, k0, k1, hJ9⟩ := hF.at hTj
      injection e9 with e9 e10 e11
      subst e9
      have hfcm : fc ≤ maxLen := by rw [e11]; exact hcm9
      have hJ9c := hJ9.isB
      obtain ⟨R, hR⟩ : ∃ R, R = recs [1, 2] D := ⟨_, rfl⟩
      have hrl : L0.length + R.length ≤ 1000 := by
        have h5 := HRT.out
        have h6 : rcT T = rcT (T.take (j + 1)) ++ rcT (T.drop (j + 1)) := by
          unfold rcT
          rw [← List.flatten_append, ← List.map_append, List.take_append_drop]
        rw [h6, hnx, List.length_append, List.length_append, ← HL0.out] at h5
        unfold rcl at h5
        rw [List.length_map, ← hR] at h5
        omega
      have HJ9 := hd hJ9c
      have HNX : Hid (rcT (T.take (j + 1)) = L0 ++ R.map fun x => x.2.2.r) := by rw [hnx, HL0.out, hR]; rfl
      have hgl : g < wb.heap.size := lt_of_cell k1
      have hrn := records_nil _ D wb hJ9c (by omega)
      rw [← hR] at hrn
      have HRN := hd hrn
      clear hTj hnx hF hJ9 hJ9c e10 e11 hR hj hrn k0
      go_wp2_with fail
      refine Calls.mono HRN.out ?_
      rintro e wd ⟨vd, rfl, jd, hbd⟩
      obtain ⟨da, dc, hvd, hdc⟩ := jd.shape
      subst hvd
      rw [List.length_map] at hdc ⊢
      rw [List.length_map] at jd
      have HJD := hd jd
      have HJ := hd (HJ.out.keepAll hbd)
      have HBD := hd (HBB.out.trans (hbd.mono (by omega)))
      have hsd := hbd.size
      clear jd hbd HRN k1
      go_wp2_with fail
      go_loopw [3, 7] (fun o i wr => ∃ (kk : Nat) (oa : Option Addr) (oc : Nat), kk ≤ R.length ∧ i = .int .i64 (kk : Int) ∧ o = .slice oa (L0.length + kk) oc ∧ JR TRec 4 wr w8.heap.size o ((L0 ++ (R.take kk).map fun x => x.2.2.r).map rvl) ∧ JL wr wb.heap.size (.slice da R.length dc) (R.map lcv) ∧ Below w8.heap.size w8 wr) (fun _ i _ => R.length - (intOf i).toNat)
      case atStart => exact ⟨0, oa, oc, by omega, rfl, rfl, by simp only [List.take_zero, List.map_nil, List.append_nil]; exact HJ.out, HJD.out, HBD.out⟩
      case round =>
        obtain ⟨kk, oa', oc', hkk, rfl, rfl, hJ, hJD, hB⟩ := hrel
        obtain ⟨wi, hwi⟩ : ∃ wi, wi = wr := ⟨_, rfl⟩
        subst hwi
        have HJK := hd hJ
        have HJL := hd hJD
        have HBK := hd hB
        have hsk := hB.size
        clear hJ hJD hB HJ HJD
        by_cases hks : kk < R.length
        · have hki : ((kk : Nat) : Int) < (R.length : Int) := by omega
          have HKS : Hid (kk + 1 ≤ R.length) := hks
          obtain ⟨x, hx⟩ : ∃ x, R[kk]? = some x := ⟨_, List.getElem?_eq_getElem hks⟩
          have hne : R.map lcv ≠ [] := by intro e; have := congrArg List.length e; rw [List.length_map] at this; change R.length = 0 at this; omega
          obtain ⟨gd, cd9, hvd, _, _⟩ := HJL.out.nn hne
          injection hvd with hv1 hv2 hv3
          subst hv1
          clear hv2 hv3
          have hxm : (R.map lcv)[kk]? = some (lcv x) := by rw [List.getElem?_map, hx]; rfl
          have q0 : wi.cell? ⟨gd, kk * 16 + 1, none⟩ = some (.int .u64 (x.2.2.r.lsn : Int)) := HJL.out.at kk _ 1 _ hxm rfl
          have q1 : wi.cell? ⟨gd, kk * 16 + 2, none⟩ = some (.int .i64 x.2.2.r.kind) := HJL.out.at kk _ 2 _ hxm rfl
          have q2 : wi.cell? ⟨gd, kk * 16 + 3, none⟩ = some (.string x.2.2.r.key) := HJL.out.at kk _ 3 _ hxm rfl
          have q3 : wi.cell? ⟨gd, kk * 16 + 4, none⟩ = some (.string x.2.2.r.val) := HJL.out.at kk _ 4 _ hxm rfl
          have HTK : Hid (L0 ++ (R.take (kk + 1)).map (fun x => x.2.2.r) = (L0 ++ (R.take kk).map fun x => x.2.2.r) ++ [x.2.2.r]) := by
            show _ = _
            rw [List.take_add_one, hx, Option.toList_some, List.map_append, List.append_assoc]; rfl
          have HLK : Hid (((L0 ++ (R.take kk).map fun x => x.2.2.r).map rvl).length + 1 = L0.length + kk + 1) := by
            show _ = _
            rw [List.length_map, List.length_append, List.length_map, List.length_take, Nat.min_eq_left (by omega)]
          obtain ⟨r, hr⟩ : ∃ r, x.2.2.r = r := ⟨_, rfl⟩
          rw [hr] at q0 q1 q2 q3 HTK
          clear hne hxm hx hkk hr
          go_wp2_with (at_builtin; refine wpList_append_jr Tryz.underlying76 info_trec rfl (by decide) _ rfl _ _ rfl w8.heap.size (.slice oa' (L0.length + kk) oc') ((L0 ++ (R.take kk).map fun x => x.2.2.r).map rvl) wi.heap.size 1 (rvl r) rfl rfl (HJK.out.alloc _) rfl (rvl_one _) (fun jj u hu => (Blk.new wi TRec (rvl r)).cell jj u hu) (L0.length + kk + 1) HLK.out (by omega) (by unfold maxLen; omega) (by simp; omega) ?_; intro g' cap w5 hJ5 hg5 ho5; have hjl := (HJL.out.alloc (.cells (rvl r).toArray TRec)).grownJ (HJK.out.alloc _) (by decide) hg5; have hb5 := (HBK.out.alloc hsk (.cells (rvl r).toArray TRec)).grown hg5 (by simp; omega) (fun q hq => HJK.out.blk_ge q hq); have HJ5 := hd hJ5; have HJL5 := hd hjl; have HB5 := hd hb5; clear hJ5 hg5 ho5 hjl hb5)
          exact ⟨⟨kk + 1, some ⟨g', 0, none⟩, cap, HKS.out, by go_num, rfl, by rw [HTK.out, List.map_append]; exact HJ5.out, HJL5.out, HB5.out⟩, by have := HKS.out; simp [intOf]; omega⟩
        · have hki : ¬ ((kk : Nat) : Int) < (R.length : Int) := by omega
          obtain rfl : kk = R.length := by omega
          have e9 : rcT (T.take (j + 1)) = L0 ++ (R.take R.length).map fun x => x.2.2.r := by rw [List.take_length]; exact HNX.out
          have e8 : (rcT (T.take (j + 1))).length = L0.length + R.length := by rw [HNX.out, List.length_append, List.length_map]
          clear hkk hks
          go_wp2_with fail
          exact ⟨⟨j + 1, oa', oc', HJT.out, by go_num, by rw [e8], by rw [e9]; exact HJK.out, HBK.out⟩, by have := HJT.out; simp [intOf]; omega⟩
    · have hji : ¬ ((j : Nat) : Int) < (m : Int) := by omega
      obtain rfl : j = m := by omega
      have e9 : rcT T = L0 := by rw [HL0.out, HM.out, List.take_length]
      clear hj hjt
      go_wp2_with fail
      go_ret
      exact ⟨_, rfl, by first | exact HJ.out.lower (by omega) | (rw [e9]; exact HJ.out.lower (by omega)), HB8.out.trans (HBB.out.mono (by omega))⟩
end Sg
end Go.Proofs.YtolddolfpnkndaaGreat
namespace Go.Proofs.YtolddolfpnkndaaGreat
open Go.RowKit
namespace Sg
open Vt Dk
theorem plf_ge : ∀ (fs : List Fr) (p : Nat) (x : Lc), x ∈ plf p fs → p ≤ x.1
  | [], _, x, h => by cases h
  | f :: q, p, x, h => by
    rcases List.mem_cons.1 h with rfl | h
    · exact Nat.le_refl _
    · have := plf_ge q (p + (en f).length) x h
      omega
/-- frames that end no later than t -/
theorem plf_upto (t : Nat) : ∀ (fs : List Fr) (p : Nat), ∃ q, q ≤ fs.length ∧ (plf p fs).filter (fun x => decide (x.1 + x.2.1 ≤ t)) = plf p (fs.take q) ∧ ∀ a, a ≤ fs.length → p + (ens (fs.take a)).length ≤ t → a ≤ q
  | [], p => ⟨0, Nat.le_refl _, rfl, fun a ha _ => by simpa using ha⟩
  | f :: fs, p => by
    by_cases hf : p + (en f).length ≤ t
    · obtain ⟨q, h1, h2, h3⟩ := plf_upto t fs (p + (en f).length)
      refine ⟨q + 1, by simp; omega, ?_, fun a ha hat => ?_⟩
      · show ((p, (en f).length, f) :: plf (p + (en f).length) fs).filter _ = (p, (en f).length, f) :: plf (p + (en f).length) (fs.take q)
        rw [List.filter_cons, if_pos (by simpa using hf), h2]
      · cases a with
        | zero => omega
        | succ a =>
          have := h3 a (by simpa using ha) (by
            rw [List.take_succ_cons, ens_cons, List.length_append] at hat
            omega)
          omega
    · refine ⟨0, Nat.zero_le _, ?_, fun a ha hat => ?_⟩
      · show ((p, (en f).length, f) :: plf (p + (en f).length) fs).filter _ = []
        rw [List.filter_eq_nil_iff]
        intro x hx
        rcases List.mem_cons.1 hx with rfl | hx
        · simpa using hf
        · have := plf_ge fs _ x hx
          simp only [decide_eq_true_eq]
          omega
      · cases a with
        | zero => exact Nat.le_refl _
        | succ a =>
          rw [List.take_succ_cons, ens_cons, List.length_append] at hat
          omega
section
variable {rs : Nat → Rec} {sy : Nat → Bool} {ex : Nat → Nat} {N : Nat}
theorem rcl_plf {s : List Nat} (hr : Rok rs N) (hs : ∀ i ∈ s, i < N) (l : List Nat) (h : locs 0 l = plf 0 (gfr rs s)) : rcl l = s.map rs := by
  have h1 : recs [1, 2] l = plf 0 (gfr rs s) := by
    have h2 := recs_gdat hr hs
    unfold recs at h2 ⊢
    rw [locs_gdat hr hs] at h2
    rw [h, h2]
  unfold rcl
  rw [h1]
  have h3 := congrArg (List.map fun f : Fr => f.r) (plf_map (gfr rs s) 0)
  rw [List.map_map] at h3
  unfold gfr at h3 ⊢
  rw [List.map_map] at h3
  exact h3
theorem rcl_gdat {s : List Nat} (hr : Rok rs N) (hs : ∀ i ∈ s, i < N) : rcl (gdat rs s) = s.map rs := rcl_plf hr hs _ (locs_gdat hr hs)
/-- a segment cut off -/
theorem rcl_cut {s : List Nat} (hr : Rok rs N) (hs : ∀ i ∈ s, i < N) (t : Nat) : ∃ q, q ≤ s.length ∧ rcl ((gdat rs s).take t) = (s.take q).map rs ∧ ∀ a, a ≤ s.length → (gdat rs (s.take a)).length ≤ t → a ≤ q := by
  have h1 := locs_upto (gdat_byt hr s hs) 0 t
  rw [locs_gdat hr hs] at h1
  simp only [Nat.zero_add] at h1
  obtain ⟨q, q1, q2, q3⟩ := plf_upto t (gfr rs s) 0
  rw [q2] at h1
  have hgl : (gfr rs s).length = s.length := by unfold gfr; rw [List.length_map]
  have hgt : ∀ a, (gfr rs s).take a = gfr rs (s.take a) := fun a => by unfold gfr; rw [List.map_take]
  rw [hgl] at q1 q3
  rw [hgt] at h1
  refine ⟨q, q1, rcl_plf hr (fun i hi => hs i (List.mem_of_mem_take hi)) _ h1.symm, fun a ha hat => q3 a ha ?_⟩
  rw [hgt, ← gdat_ens, Nat.zero_add]; exact hat
theorem rcT_app (a b : List (ByteArray × List Nat)) : rcT (a ++ b) = rcT a ++ rcT b := by unfold rcT; rw [List.map_append, List.flatten_append]
theorem rcT_one (s : ByteArray) (x : List Nat) : rcT [(s, x)] = rcl x := by unfold rcT; simp
/-- files of whole segments -/
theorem rcT_files (hr : Rok rs N) : ∀ (segs : List (List Nat)) (k : Nat), (∀ s ∈ segs, ∀ i ∈ s, i < N) → rcT ((files k (segs.map (gdat rs))).map fun f => (f.nm, f.dat)) = segs.flatten.map rs
  | [], _, _ => rfl
  | s :: r, k, h => by
    have ih := rcT_files hr r (k + 1) fun s hs => h s (List.mem_cons_of_mem _ hs)
    have h1 := rcl_gdat hr (h s List.mem_cons_self)
    show rcl (gdat rs s) ++ rcT ((files (k + 1) (r.map (gdat rs))).map fun f => (f.nm, f.dat)) = _
    rw [ih, h1, List.flatten_cons, List.map_append]
/-- how many are synced behind k -/
def lst (sy : Nat → Bool) : Nat → Nat
  | 0 => 0
  | k + 1 => if sy k then k + 1 else lst sy k
theorem lst_le (sy : Nat → Bool) : ∀ k, lst sy k ≤ k
  | 0 => Nat.le_refl _
  | k + 1 => by unfold lst; have := lst_le sy k; split <;> omega
/-- what lasts grows within a segment -/
theorem Gk.las (hr : Rok rs N) {cp lim evy k : Nat} {X : Ws × Ds} (hcp : 600000 ≤ cp) (h : Gk cp lim evy k X) (hk : k < N) {o : List (List Nat)} {c : List Nat} {s : Nat} (hi : Iv X.1 X.2 o c s) (hol : o.length ≤ 200) (hsc : s ≤ c.length) :
    (∃ las, Iv (gstp rs sy ex k X).1 (gstp rs sy ex k X).2 o (c ++ gB rs k) las ∧ s ≤ las) ∨ ∃ las, Iv (gstp rs sy ex k X).1 (gstp rs sy ex k X).2 (o ++ [c]) ([] ++ gB rs k) las := by
  have hN := hr.le
  have hfl : (gB rs k).length ≤ 4409 := hr.len k hk
  have hroom : X.2.used + (gB rs k).length ≤ X.2.cap := by rw [h.cap]; have := h.used; omega
  have main : ∀ {old cur0 : List _} {las0 uns0 las' : Nat}, Pu X.1 (pt X.1 X.2 (gB rs k)).2.1 X.2 (pt X.1 X.2 (gB rs k)).2.2 old cur0 (gB rs k) las0 uns0 las' → las0 ≤ cur0.length → ∃ las, Iv (gstp rs sy ex k X).1 (gstp rs sy ex k X).2 old (cur0 ++ gB rs k) las ∧ las0 ≤ las := by
    intro old cur0 las0 uns0 las' hp hl
    obtain ⟨s1, s2, s3, s4⟩ := sy_iv hp.iv
    unfold gstp
    by_cases hs : sy k = true
    · have e0 : gst0 rs sy k X = (syR (pt X.1 X.2 (gB rs k)).2.1 (pt X.1 X.2 (gB rs k)).2.2).2 := by unfold gst0; rw [if_pos hs]
      rw [e0]
      exact ⟨_, Iv.bump (by rw [s2]; exact s3) _, by rw [List.length_append]; omega⟩
    · have e0 : gst0 rs sy k X = (pt X.1 X.2 (gB rs k)).2 := by unfold gst0; rw [if_neg hs]
      rw [e0]
      refine ⟨_, hp.iv.bump _, ?_⟩
      rcases hp.las with ⟨q, _⟩ | ⟨q, _⟩
      · omega
      · rw [q, List.length_append]; omega
  obtain ⟨_, las', ⟨_, _, _, p4⟩ | ⟨_, _, _, p4⟩⟩ := pt_iv hi (gB rs k) hroom (by omega)
  · exact .inl (main p4 hsc)
  · obtain ⟨las, q, _⟩ := main p4 (Nat.zero_le _)
    exact .inr ⟨las, q⟩
theorem Iv.las_le {W : Ws} {S : Ds} {o : List (List Nat)} {c : List Nat} {s : Nat} (h : Iv W S o c s) : s ≤ c.length := h.good.las ⟨nmS (o.length + 1), c, s⟩ (by rw [h.fs]; exact List.mem_append_right _ (List.mem_singleton.2 rfl))
/-- all records that were synced stand in what lasts -/
theorem gy_all (hr : Rok rs N) (he : ∀ i, ex i ≤ 1) {cp lim evy : Nat} (hcp : 600000 ≤ cp) {X : Ws × Ds} (h0 : Gk cp lim evy 0 X) : ∀ k, k ≤ N → k = 0 ∨ ∃ init a b las, (init ++ [a ++ b]).flatten = List.range k ∧ Iv (gsat rs sy ex X k).1 (gsat rs sy ex X k).2 (init.map (gdat rs)) (gdat rs (a ++ b)) las ∧ (gdat rs a).length ≤ las ∧ lst sy k ≤ (init.flatten ++ a).length
  | 0, _ => .inl rfl
  | k + 1, hk => by
    right
    have hN := hr.le
    have hgk := gsat_ok (sy := sy) (ex := ex) hr he hcp h0 k (by omega)
    obtain ⟨_, _, hgk1, _, _, _, old, cur0, las, h4, _, h5, h6⟩ := hgk.step (sy := sy) (ex := ex) hr he hcp (by omega)
    have hsn : gsat rs sy ex X (k + 1) = gstp rs sy ex k (gsat rs sy ex X k) := rfl
    -- a sync makes all of it last
    have all : ∀ {init : List (List Nat)} {last : List Nat}, (init ++ [last ++ [k]]).flatten = List.range (k + 1) → old = init.map (gdat rs) → cur0 ++ gB rs k = gdat rs (last ++ [k]) → sy k = true → ∃ init a b las, (init ++ [a ++ b]).flatten = List.range (k + 1) ∧ Iv (gsat rs sy ex X (k + 1)).1 (gsat rs sy ex X (k + 1)).2 (init.map (gdat rs)) (gdat rs (a ++ b)) las ∧ (gdat rs a).length ≤ las ∧ lst sy (k + 1) ≤ (init.flatten ++ a).length := by
      intro init last e1 e2 e3 hs
      refine ⟨init, last ++ [k], [], las, by rw [List.append_nil]; exact e1, by rw [List.append_nil, hsn, ← e2, ← e3]; exact h4, by rw [h5 hs, e3]; exact Nat.le_refl _, ?_⟩
      have := congrArg List.length e1
      rw [List.length_range, List.flatten_append] at this
      have h9 := lst_le sy (k + 1)
      simp at this ⊢
      omega
    rcases gy_all hr he hcp h0 k (by omega) with rfl | ⟨init, a, b, las0, g1, g2, g3, g4⟩
    · rcases h6 with ⟨_, rfl, rfl⟩ | ⟨o, c, s, hi, _⟩
      · by_cases hs : sy 0 = true
        · exact all (init := []) (last := []) rfl rfl (by rw [List.nil_append, List.nil_append, gdat_one]) hs
        · refine ⟨[], [], [0], las, rfl, by rw [hsn, List.nil_append, gdat_one]; exact h4, Nat.zero_le _, ?_⟩
          unfold lst; rw [if_neg hs]; exact Nat.zero_le _
      · rcases hgk.at_ with ⟨_, q⟩ | ⟨q, _⟩
        · have := q.num; rw [hi.num] at this; omega
        · omega
    · rcases h6 with ⟨rfl, _, _⟩ | ⟨o, c, s, hi2, ⟨_, rfl, rfl⟩ | ⟨_, rfl, rfl⟩⟩
      · rcases hgk.at_ with ⟨_, q⟩ | ⟨q, _⟩
        · have := q.num; rw [g2.num] at this; omega
        · omega
      · obtain ⟨rfl, rfl⟩ := g2.uniq hi2
        have e1 : (init ++ [(a ++ b) ++ [k]]).flatten = List.range (k + 1) := by
          rw [List.flatten_append] at g1 ⊢
          simp only [List.flatten_cons, List.flatten_nil, List.append_nil] at g1 ⊢
          rw [← List.append_assoc, g1, List.range_succ]
        by_cases hs : sy k = true
        · exact all e1 rfl (by rw [gdat_app rs (a ++ b), gdat_one]) hs
        · have hil : init.length ≤ 200 := by
            rcases hgk.at_ with ⟨q, _⟩ | ⟨_, o2, c2, s2, q, q2, _, _⟩
            · subst q
              have h7 := congrArg List.length g1
              rw [List.flatten_append] at h7
              have := g2.good.cnt
              have h8 := hgk.acts
              rw [g2.fs] at this
              simp [files_len] at this
              omega
            · obtain ⟨e, _⟩ := g2.uniq q
              have := congrArg List.length e
              rw [List.length_map] at this
              omega
          rcases hgk.las (sy := sy) (ex := ex) hr hcp (by omega) g2 (by rw [List.length_map]; exact hil) g2.las_le with ⟨las2, q1, q2⟩ | ⟨las2, q1⟩
          · refine ⟨init, a, b ++ [k], las2, by rw [← List.append_assoc]; exact e1, by rw [hsn, ← List.append_assoc, gdat_app rs (a ++ b), gdat_one]; exact q1, by omega, ?_⟩
            unfold lst; rw [if_neg hs]; exact g4
          · exfalso
            obtain ⟨e, _⟩ := q1.uniq h4
            have := congrArg List.length e
            simp at this
      · obtain ⟨rfl, rfl⟩ := g2.uniq hi2
        have e1 : ((init ++ [a ++ b]) ++ [[] ++ [k]]).flatten = List.range (k + 1) := by
          rw [List.flatten_append, g1, List.range_succ]; rfl
        by_cases hs : sy k = true
        · exact all (init := init ++ [a ++ b]) (last := []) e1 (by rw [List.map_append]; rfl) (by rw [List.nil_append, List.nil_append, gdat_one]) hs
        · refine ⟨init ++ [a ++ b], [], [k], las, e1, by rw [hsn, List.map_append, List.nil_append, gdat_one]; exact h4, Nat.zero_le _, ?_⟩
          unfold lst; rw [if_neg hs]
          have h9 := lst_le sy k
          rw [g1, List.append_nil, List.length_range]; exact h9
theorem files_crashed (keep : Int) : ∀ (L : List (List Nat)) (k : Nat), (files k L).map (crashed keep) = files k L
  | [], _ => rfl
  | x :: r, k => by
    have ih := files_crashed keep r (k + 1)
    have h1 : crashed keep ⟨nmS k, x, x.length⟩ = (⟨nmS k, x, x.length⟩ : Fi) := by
      unfold crashed Dk.left
      simp only [Nat.sub_self, Nat.min_zero, Nat.add_zero, List.take_length]
    show crashed keep ⟨nmS k, x, x.length⟩ :: (files (k + 1) r).map (crashed keep) = _
    rw [ih, h1]; rfl
theorem files_dat : ∀ (L : List (List Nat)) (k : Nat) (f : ByteArray × List Nat), f ∈ (files k L).map (fun f => (f.nm, f.dat)) → f.2 ∈ L
  | [], _, f, h => by cases h
  | x :: r, k, f, h => by
    rcases List.mem_cons.1 (show f ∈ (nmS k, x) :: (files (k + 1) r).map (fun f => (f.nm, f.dat)) from h) with rfl | h
    · exact List.mem_cons_self
    · exact List.mem_cons_of_mem _ (files_dat r (k + 1) f h)
/-- what Files tells, behind a crash too -/
theorem gcrash (hr : Rok rs N) (he : ∀ i, ex i ≤ 1) {cp lim evy : Nat} (hcp : 600000 ≤ cp) {X : Ws × Ds} (h0 : Gk cp lim evy 0 X) (n : Nat) (hn : n ≤ N) (S : Ds) (hS : S.fs = (gsat rs sy ex X n).2.fs) (keep : Int) :
    rcT (Dk.told S true) = (List.range n).map rs ∧ (∃ p, lst sy n ≤ p ∧ p ≤ n ∧ rcT (Dk.told (crash keep S) true) = (List.range p).map rs) ∧ (∀ f ∈ Dk.told S true, f.2.length ≤ 1000000) ∧ (∀ f ∈ Dk.told (crash keep S) true, f.2.length ≤ 1000000) ∧ (Dk.told S true).length ≤ 2000 ∧ (Dk.told (crash keep S) true).length ≤ 2000 := by
  have hN := hr.le
  rcases gy_all (sy := sy) (ex := ex) hr he hcp h0 n hn with rfl | ⟨init, a, b, las, g1, g2, g3, g4⟩
  · have hf : S.fs = [] := by
      rw [hS]
      rcases h0.at_ with ⟨_, q⟩ | ⟨q, _⟩
      · exact q.fs
      · omega
    have h1 : Dk.told S true = [] := by unfold Dk.told; rw [hf]; simp
    have h2 : Dk.told (crash keep S) true = [] := by unfold Dk.told; show ((((S.fs.map (crashed keep)).map fun f => f.nm.data.toList).mergeSort leB).map _) = []; rw [hf]; simp
    rw [h1, h2]
    exact ⟨rfl, ⟨0, Nat.le_refl _, Nat.le_refl _, rfl⟩, (by simp), (by simp), (by simp), (by simp)⟩
  · have hmem : ∀ s ∈ init ++ [a ++ b], ∀ i ∈ s, i < N := by
      intro s hs i hi
      have : i ∈ (init ++ [a ++ b]).flatten := List.mem_flatten.2 ⟨s, hs, hi⟩
      rw [g1] at this
      have := List.mem_range.1 this
      omega
    have hm1 : ∀ s ∈ init, ∀ i ∈ s, i < N := fun s hs => hmem s (List.mem_append_left _ hs)
    have hm2 : ∀ i ∈ a ++ b, i < N := hmem (a ++ b) (List.mem_append_right _ (List.mem_singleton.2 rfl))
    have hacts := (gsat_ok (sy := sy) (ex := ex) hr he hcp h0 n hn).acts
    have hil : init.length ≤ 1000 := by
      have := g2.good.cnt
      rw [g2.fs] at this
      simp [files_len] at this
      omega
    have g1' : init.flatten ++ (a ++ b) = List.range n := by
      rw [List.flatten_append] at g1
      simpa using g1
    have hT : Dk.told S true = ((files 1 (init.map (gdat rs))).map fun f => (f.nm, f.dat)) ++ [(nmS ((init.map (gdat rs)).length + 1), gdat rs (a ++ b))] := by
      have h1 := told_iv g2 (by rw [List.length_map]; omega) true
      have h2 : Dk.told S true = Dk.told (gsat rs sy ex X n).2 true := by unfold Dk.told; rw [hS]
      rw [h2, h1]; rfl
    obtain ⟨t, ht⟩ : ∃ t, t = Dk.left keep ⟨nmS ((init.map (gdat rs)).length + 1), gdat rs (a ++ b), las⟩ := ⟨_, rfl⟩
    have htl : las ≤ t := by rw [ht]; exact Nat.le_add_right _ _
    have hcf : (crash keep (gsat rs sy ex X n).2).fs = files 1 (init.map (gdat rs)) ++ [⟨nmS ((init.map (gdat rs)).length + 1), (gdat rs (a ++ b)).take t, ((gdat rs (a ++ b)).take t).length⟩] := by
      show (gsat rs sy ex X n).2.fs.map (crashed keep) = _
      rw [g2.fs, List.map_append, files_crashed, ht]
      rfl
    have hiv : Iv { (gsat rs sy ex X n).1 with laid := ((gdat rs (a ++ b)).take t).length } (crash keep (gsat rs sy ex X n).2) (init.map (gdat rs)) ((gdat rs (a ++ b)).take t) ((gdat rs (a ++ b)).take t).length := ⟨g2.num, rfl, hcf, fun _ => rfl, g2.op, ⟨rfl, rfl, rfl⟩, g2.good.crash keep⟩
    have hC : Dk.told (crash keep S) true = ((files 1 (init.map (gdat rs))).map fun f => (f.nm, f.dat)) ++ [(nmS ((init.map (gdat rs)).length + 1), (gdat rs (a ++ b)).take t)] := by
      have h1 := told_iv hiv (by rw [List.length_map]; omega) true
      have h2 : (crash keep S).fs = (crash keep (gsat rs sy ex X n).2).fs := by show S.fs.map _ = (gsat rs sy ex X n).2.fs.map _; rw [hS]
      have h3 : Dk.told (crash keep S) true = Dk.told (crash keep (gsat rs sy ex X n).2) true := by unfold Dk.told; rw [h2]
      rw [h3, h1]; rfl
    obtain ⟨q, q1, q2, q3⟩ := rcl_cut hr hm2 t
    have hqa : a.length ≤ q := q3 a.length (by simp) (by rw [List.take_left']; exact Nat.le_trans g3 htl; rfl)
    have hlen : ∀ s ∈ init ++ [a ++ b], (gdat rs s).length ≤ 1000000 := by
      intro s hs
      have h1 := gdat_len hr s (hmem s hs)
      have h2 := seg_len g1 hs
      have : 4409 * s.length ≤ 4409 * 101 := Nat.mul_le_mul_left _ (by omega)
      omega
    have hf1 : ∀ f ∈ (files 1 (init.map (gdat rs))).map (fun f => (f.nm, f.dat)), f.2.length ≤ 1000000 := by
      intro f hf
      obtain ⟨s, hs, e⟩ := List.mem_map.1 (files_dat _ _ _ hf)
      rw [← e]; exact hlen s (List.mem_append_left _ hs)
    have hf2 := hlen (a ++ b) (List.mem_append_right _ (List.mem_singleton.2 rfl))
    rw [hT, hC]
    refine ⟨?_, ⟨init.flatten.length + q, ?_, ?_, ?_⟩, ?_, ?_, ?_, ?_⟩
    · rw [rcT_app, rcT_files hr init 1 hm1]
      have h1 : rcT [(nmS ((init.map (gdat rs)).length + 1), gdat rs (a ++ b))] = (a ++ b).map rs := by
        rw [rcT_one]; exact rcl_gdat hr hm2
      rw [h1, ← List.map_append, g1']
    · rw [List.length_append] at g4; omega
    · have := congrArg List.length g1'
      rw [List.length_append, List.length_range] at this
      omega
    · rw [rcT_app, rcT_files hr init 1 hm1]
      have h1 : rcT [(nmS ((init.map (gdat rs)).length + 1), (gdat rs (a ++ b)).take t)] = ((a ++ b).take q).map rs := by
        rw [rcT_one]; exact q2
      have h2 : init.flatten ++ (a ++ b).take q = List.range (init.flatten.length + q) := by
        have h3 : (init.flatten ++ (a ++ b)).take (init.flatten.length + q) = init.flatten ++ (a ++ b).take q := by rw [List.take_append, List.take_of_length_le (by omega), Nat.add_sub_cancel_left]
        have h4 := congrArg List.length g1'
        rw [List.length_append, List.length_range] at h4
        rw [← h3, g1', List.take_range, Nat.min_eq_left (by omega)]
      rw [h1, ← List.map_append, h2]
    · intro f hf
      rcases List.mem_append.1 hf with hf | hf
      · exact hf1 f hf
      · rw [List.mem_singleton.1 hf]; exact hf2
    · intro f hf
      rcases List.mem_append.1 hf with hf | hf
      · exact hf1 f hf
      · rw [List.mem_singleton.1 hf]
        show ((gdat rs (a ++ b)).take t).length ≤ _
        rw [List.length_take]; omega
    · simp [files_len]; omega
    · simp [files_len]; omega
end
end Sg
end Go.Proofs.YtolddolfpnkndaaGreat
