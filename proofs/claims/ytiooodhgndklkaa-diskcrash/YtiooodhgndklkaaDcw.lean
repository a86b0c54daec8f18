/-
  THE WALK OF DiskCrash.
-/
import Derived.Test.YtiooodhgndklkaaDns
import Derived.Test.YtiooodhgndklkaaDkj
namespace Go.Proofs.Ytiooodhgndklkaa
open Go.RowKit Go.Maps Go.Sort
namespace Dk
open Vt
attribute [local go_sem ↓] slice_hid
theorem quiet_at {f : FuncId} {args : Array Value} {wr : World} {c x : Nat} {v : Value} (h : Calls Try.prog f args (wr.drewN (c + x)) fun e w' => e = .returned v ∧ ∃ m, w' = (wr.drewN (c + x)).drewN m) : Calls Try.prog f args (wr.drewN (c + x)) fun e w'' => e = .returned v ∧ ∃ n, w'' = wr.drewN (c + n) :=
  h.mono fun _ _ ⟨he, m, hm⟩ => ⟨he, x + m, by rw [hm, World.drewN_drewN, Nat.add_assoc]⟩
theorem get_crash (keep : Int) (S : Ds) (s : ByteArray) : get (crash keep S).fs s = (get S.fs s).map (crashed keep) := by
  show (S.fs.map (crashed keep)).find? _ = _
  rw [List.find?_map]
  rfl
theorem nms_crash (keep : Int) (S : Ds) : ((crash keep S).fs.map fun f => f.nm.data.toList) = S.fs.map fun f => f.nm.data.toList := by
  show (S.fs.map (crashed keep)).map _ = _
  rw [List.map_map]; rfl
theorem told_len (S : Ds) (all : Bool) : (told S all).length = S.fs.length := by unfold told; rw [List.length_map, List.length_mergeSort, List.length_map]
theorem told_crash (keep : Int) (S : Ds) : told (crash keep S) false = told (crash keep S) true := by
  unfold told
  refine List.map_congr_left fun s _ => ?_
  rw [get_crash]
  cases get S.fs ⟨s.toArray⟩ with
  | none => rfl
  | some f =>
    simp only [Option.map_some, Option.getD_some, crashed, if_true, Bool.false_eq_true, if_false, List.take_length]
theorem told_at (keep : Int) (S : Ds) (hG : Good S) (k : Nat) (hk : k < S.fs.length) : ∃ f : Fi, f ∈ S.fs ∧ (told S true)[k]? = some (f.nm, f.dat) ∧ (told S false)[k]? = some (f.nm, f.dat.take f.las) ∧ (told (crash keep S) true)[k]? = some (f.nm, f.dat.take (left keep f)) := by
  have hl : ((S.fs.map fun f => f.nm.data.toList).mergeSort leB).length = S.fs.length := by rw [List.length_mergeSort, List.length_map]
  have hk' : k < ((S.fs.map fun f => f.nm.data.toList).mergeSort leB).length := by rw [hl]; exact hk
  have hm := (List.mergeSort_perm _ _).mem_iff.1 (List.getElem_mem hk')
  obtain ⟨f, hf, hx⟩ := List.mem_map.1 hm
  have hg := get_of_mem hG.names hf
  have h3 : ((S.fs.map fun f => f.nm.data.toList).mergeSort leB)[k]? = some f.nm.data.toList := by rw [List.getElem?_eq_getElem hk', ← hx]
  have hnm : (⟨f.nm.data.toList.toArray⟩ : ByteArray) = f.nm := by rcases f with ⟨⟨⟨x⟩⟩, _⟩; rfl
  refine ⟨f, hf, ?_, ?_, ?_⟩
  · unfold told; rw [List.getElem?_map, h3]; simp only [Option.map_some, hnm, hg, if_true, Option.getD_some]
  · unfold told; rw [List.getElem?_map, h3]; simp only [Option.map_some, hnm, hg, Bool.false_eq_true, if_false, Option.getD_some]
  · unfold told; rw [nms_crash, List.getElem?_map, h3]; simp only [Option.map_some, hnm, get_crash, hg, if_true, Option.getD_some, crashed]
theorem FLs.tr {w w' : World} {lo : Nat} {v : Value} {l : List (ByteArray × List Nat)} {O : Nat → Prop} (h : FLs w lo v l) (ht : Tr O w w') (hO : ∀ b, lo ≤ b → b < w.heap.size → ¬ O b) : FLs w' lo v l := h.same fun g h1 h2 => ht.block g h2 (hO g h1 h2)
theorem FLs.below {w w' : World} {lo : Nat} {v : Value} {l : List (ByteArray × List Nat)} (h : FLs w lo v l) (hb : Below w.heap.size w w') : FLs w' lo v l := h.same fun g _ h2 => hb.block g h2
theorem DK.below {w w' : World} {d : Nat} {O : Nat → Prop} {S : Ds} (h : DK w d O S) (hb : Below w.heap.size w w') : DK w' d O S := h.keep (fun b q => hb.block b (h.olt b q)) hb.size
theorem below_tr {B : Nat} {a b c : World} (h : Below B a b) (k : Below B b c) : Below B a c := ⟨k.os.trans h.os, k.tape.trans h.tape, k.output.trans h.output, Nat.le_trans h.size k.size, fun j hj => (k.block j hj).trans (h.block j hj)⟩
theorem below_le {B B' : Nat} {a b : World} (h : Below B' a b) (hB : B ≤ B') : Below B a b := ⟨h.os, h.tape, h.output, h.size, fun j hj => h.block j (by omega)⟩
set_option maxRecDepth 100000 in
set_option maxHeartbeats 1000000 in
theorem crashLaw_is (v1 : Value) (l1 : List Op7) (keep : Int) (w : World) (h1 : Scr w.heap.size w v1 l1) (hl1 : l1.length ≤ 1600000000000) :
    Calls Try.prog 6 #[v1, .int .i64 keep] w fun e w' => e = .returned (.bool true) ∧ Below w.heap.size w w' := by
  have HST := hd (started_is w.heap.size w w v1 l1 (Below.refl _ _) (Nat.le_refl _) h1 (by omega))
  obtain ⟨a1, c1, rfl⟩ := h1.shape
  clear h1
  go_enter Try.func6, Try.ntmps6
  go_wp2_with fail
  refine Calls.mono HST.out ?_
  rintro e w1 ⟨d, rfl, hU1⟩
  have hac1 : (actsS s0 l1).acts ≤ 1 + l1.length := actsS_acts s0 l1
  obtain ⟨S, hS⟩ : ∃ S, S = actsS s0 l1 := ⟨_, rfl⟩
  rw [← hS] at hU1 hac1
  clear hS HST
  obtain ⟨O1, hK1, hO1⟩ := hU1.dk
  have hG := hK1.good
  have HG := hd hG
  have HAC : Hid (S.acts ≤ 2000000000000) := by show _ ≤ _; omega
  have hcnt : S.fs.length ≤ 2000000000200 := by have := hG.cnt; omega
  have HF1 := hd (files_is w1 d O1 S hK1 HAC.out)
  have HK1 := hd hK1; have HU1 := hd hU1; have HO1 := hd hO1
  clear hK1 hU1 hO1 hG hac1
  go_wp2_with fail
  refine Calls.mono HF1.out ?_
  rintro e w2 ⟨va, rfl, hA2, hb2⟩
  obtain ⟨aa, ca, rfl, hca⟩ := hA2.shape
  have hK2 := HK1.out.below hb2
  have HF2 := hd (lasting_is w2 d O1 S hK2 HAC.out)
  have HA2 := hd hA2; have HB2 := hd hb2; have HK2 := hd hK2
  clear hA2 hb2 hK2 HF1
  rw [told_len] at HA2 hca ⊢
  go_wp2_with fail
  refine Calls.mono HF2.out ?_
  rintro e w3 ⟨vl, rfl, hL3, hb3⟩
  obtain ⟨al, cl, rfl, hcl⟩ := hL3.shape
  have hK3 := HK2.out.below hb3
  have hA3 := HA2.out.below hb3
  have HCR := hd (crash_is w3 d O1 S keep hK3)
  have HA3 := hd hA3; have HL3 := hd hL3; have HB3 := hd hb3; have HK3 := hd hK3
  clear hA3 hL3 hb3 hK3 HF2 HA2 HK2
  rw [told_len] at HL3 hcl ⊢
  go_wp2_with fail
  refine Calls.mono HCR.out ?_
  rintro e w4 ⟨rfl, O2, hK4, ht4, hO2⟩
  have hs12 := HB2.out.size
  have hs23 := HB3.out.size
  have hA4 := HA3.out.tr ht4 fun b h1 _ q => by have := HK1.out.olt b q; omega
  have hL4 := HL3.out.tr ht4 fun b h1 _ q => by have := HK1.out.olt b q; omega
  have hB4 : Below w.heap.size w w4 := below_tr HU1.out.below (below_tr (below_le HB2.out HU1.out.size) (below_tr (below_le HB3.out (Nat.le_trans HU1.out.size hs12)) (ht4.below HO1.out (Nat.le_trans HU1.out.size (Nat.le_trans hs12 hs23)))))
  have hSc : (crash keep S).fs.length = S.fs.length := by show (S.fs.map _).length = _; rw [List.length_map]
  have HF4 := hd (files_is w4 d O2 (crash keep S) hK4 HAC.out)
  have HA4 := hd hA4; have HL4 := hd hL4; have HB4 := hd hB4; have HK4 := hd hK4
  have HSc := hd hSc
  clear hA4 hL4 hB4 hK4 ht4 hO2 hSc HCR HA3 HL3 HB3 HK3 hs12 hs23 HB2 HU1 HO1 HK1
  go_wp2_with fail
  refine Calls.mono HF4.out ?_
  rintro e w5 ⟨vt, rfl, hT5, hb5⟩
  obtain ⟨at_, ct, rfl, hct⟩ := hT5.shape
  have hK5 := HK4.out.below hb5
  have hA5 := HA4.out.below hb5
  have hL5 := HL4.out.below hb5
  have HF5 := hd (lasting_is w5 d O2 (crash keep S) hK5 HAC.out)
  have hB5 : Below w.heap.size w w5 := below_tr HB4.out (below_le hb5 HB4.out.size)
  have HA5 := hd hA5; have HL5 := hd hL5; have HT5 := hd hT5; have HB5 := hd hB5
  clear hA5 hL5 hT5 hb5 hK5 hB5 HF4 HA4 HL4 HK4 HB4
  rw [told_len, HSc.out] at HT5 hct ⊢
  go_wp2_with fail
  refine Calls.mono HF5.out ?_
  rintro e w6 ⟨vu, rfl, hU6, hb6⟩
  obtain ⟨au, cu, rfl, hcu⟩ := hU6.shape
  have hA6 := HA5.out.below hb6
  have hL6 := HL5.out.below hb6
  have hT6 := HT5.out.below hb6
  have hB6 : Below w.heap.size w w6 := below_tr HB5.out (below_le hb6 HB5.out.size)
  rw [told_crash] at hU6
  rw [told_len, HSc.out] at hcu hU6 ⊢
  have HSF := hd (sameFiles_is w6 _ _ _ _ _ _ hT6 hU6 (by rw [told_len, HSc.out]; exact hcnt))
  rw [decide_eq_true rfl] at HSF
  have HA6 := hd hA6; have HL6 := hd hL6; have HT6 := hd hT6; have HB6 := hd hB6
  clear hA6 hL6 hT6 hU6 hb6 hB6 HF5 HA5 HL5 HT5 HB5
  go_wp2_with fail
  refine Calls.mono HSF.out ?_
  rintro e w7 ⟨rfl, ht7, hs7⟩
  have hA7 := HA6.out.tr ht7 fun _ _ _ q => q
  have hL7 := HL6.out.tr ht7 fun _ _ _ q => q
  have hT7 := HT6.out.tr ht7 fun _ _ _ q => q
  have hB7 : Below w.heap.size w w7 := below_tr HB6.out (ht7.below (fun _ q => q.elim) HB6.out.size)
  have HA7 := hd hA7; have HL7 := hd hL7; have HT7 := hd hT7; have HB7 := hd hB7
  clear hA7 hL7 hT7 hB7 ht7 hs7 HSF HA6 HL6 HT6 HB6
  go_wp2_with fail
  --LOOP
  go_loopw [12] (fun i wr => ∃ k : Nat, k ≤ S.fs.length ∧ i = .int .i64 (k : Int) ∧ ∃ n, wr = w7.drewN n) (fun i _ => S.fs.length - (intOf i).toNat)
  case atStart => exact ⟨0, by omega, rfl, 0, rfl⟩
  case round =>
    obtain ⟨k, hk, rfl, hwr⟩ := hrel
    have HFr : Hid (FLs wr w1.heap.size (Value.slice aa S.fs.length ca) (told S true) ∧ FLs wr w2.heap.size (Value.slice al S.fs.length cl) (told S false) ∧ FLs wr w4.heap.size (Value.slice at_ S.fs.length ct) (told (crash keep S) true)) := by obtain ⟨n, rfl⟩ := hwr; exact ⟨HA7.out, HL7.out, HT7.out⟩
    have HWR := hd hwr
    clear hwr
    by_cases hlt : k < S.fs.length
    · obtain ⟨f, hf, hA, hL, hT⟩ := told_at keep S HG.out k hlt
      have hq := HG.out.las f hf
      have hmx : f.dat.length ≤ 4194304 := by
        have h1 := get_len_le (get_of_mem HG.out.names hf)
        have h2 := HG.out.used; have h3 := HG.out.room; have h4 := HG.out.cap
        omega
      obtain ⟨nm, dat, q⟩ := f
      simp only at hA hL hT hq hmx
      obtain ⟨xl, hxl⟩ : ∃ xl, xl = dat.take q := ⟨_, rfl⟩
      obtain ⟨xt, hxt⟩ : ∃ xt, xt = dat.take (left keep ⟨nm, dat, q⟩) := ⟨_, rfl⟩
      rw [← hxl] at hL
      rw [← hxt] at hT
      have hxln : xl.length = q := by rw [hxl, List.length_take]; omega
      obtain ⟨gA, kA, uA, vA, hvA, hlA, hmA, a1, a2, hJA⟩ := HFr.out.1.at hA
      obtain ⟨gL, kL, uL, vL, hvL, hlL, hmL, l1', l2, hJL⟩ := HFr.out.2.1.at hL
      obtain ⟨gT, kT, uT, vT, hvT, hlT, hmT, t1, t2, hJT⟩ := HFr.out.2.2.at hT
      rw [told_len] at hlA hlL hlT
      rw [HSc.out] at hlT
      injection hvA with e1 z1 e2
      injection hvL with e3 z2 e4
      injection hvT with e5 z3 e6
      clear z1 z2 z3
      subst e1 e2 e3 e4 e5 e6
      have hvA1 : dat.length ≤ vA ∧ vA ≤ 2 ^ 63 - 1 := by
        obtain ⟨a, c, h1, h2⟩ := hJA.shape
        injection h1 with _ _ h1
        subst h1
        refine ⟨h2, ?_⟩
        obtain ⟨_, _, ⟨q2, _⟩ | ⟨g', cap, cur, q2, _, _, _, q5, _⟩⟩ := hJA
        · injection q2 with _ _ q2; omega
        · injection q2 with _ _ q2; unfold maxLen at q5; omega
      obtain ⟨hvA1, hvA2⟩ := hvA1
      rw [hxln] at l2 hJL
      have HJA := hd hJA; have HJL := hd hJL; have HJT := hd hJT
      have HXLN := hd hxln; have HXT := hd hxt
      clear hA hL hT hJA hJL hJT hxln hxt hf
      obtain ⟨L, hLL⟩ : ∃ L, L = dat.length := ⟨_, rfl⟩
      rw [← hLL] at a2 hq hmx hvA1 HJA
      have HLL := hd hLL
      by_cases hk0 : keep < 0
      · have hEQ : xt = dat.take (q) := by
          have h0 := HXT.out
          unfold left at h0
          rw [h0]
          congr 1
          simp only
          omega
        rw [hLL] at HJA
        clear hLL
        have HS1 := hd (fun (Y : World) (hY : Y.heap = wr.heap) => same_is (.slice uT xt.length vT) (.slice uA (q) vA) xt (dat.take (q)) Y (JB.same HJT.out fun g _ => by rw [hY]).isB ((JB.same HJA.out fun g _ => by rw [hY]).isB.take (q) (by have := HLL.out; omega)))
        rw [decide_eq_true hEQ] at HS1
        have HS2 := hd (fun (Y : World) (hY : Y.heap = wr.heap) => same_is (.slice uL q vL) (.slice uA q vA) xl (dat.take q) Y (JB.same HJL.out fun g _ => by rw [hY]).isB ((JB.same HJA.out fun g _ => by rw [hY]).isB.take q (by have := HLL.out; omega)))
        rw [decide_eq_true hxl] at HS2
        have R1 : ∀ w : World, (slO 27 (.slice uA L vA) none (some (.int .i64 ((q : Int)))) none).run Try.prog w = .ok (.slice uA (q) vA) w := by
          have h := (run_slO_to (k := q) HJA.out.isB (by have := HLL.out; omega) (by have := HLL.out; omega)).1
          rw [← HLL.out] at h
          rw [show ((q : Int) : Int) = ((q : Nat) : Int) by omega]
          exact h
        have R2 : ∀ w : World, (slO 27 (.slice uA L vA) none (some (.int .i64 (q : Int))) none).run Try.prog w = .ok (.slice uA q vA) w := by
          have h := (run_slO_to (k := q) HJA.out.isB (by have := HLL.out; omega) (by have := HLL.out; omega)).1
          rw [← HLL.out] at h
          exact h
        have HEQ := hd hEQ; have HXL := hd hxl
        clear hEQ hxl
        go_wp2_with fail
        go_quiet (fail)
        go_wp2_with fail
        go_quiet (fail)
        go_wp2_with fail
        go_quiet ((go_at_call 17; exact quiet_at (HS1.out _ rfl)))
        go_wp2_with fail
        go_quiet ((go_at_call 17; exact quiet_at (HS2.out _ rfl)))
        go_wp2_with fail
        go_roundw
        case rel =>
          refine ⟨k + 1, by omega, by go_num, ?_⟩
          obtain ⟨n, hn⟩ := HWR.out
          subst hn
          simp only [World.drewN_drewN]
          exact ⟨_, rfl⟩
        case measure => simp [intOf]; omega
      · by_cases hk1 : keep < (L : Int) - (q : Int)
        · obtain ⟨m, rfl⟩ : ∃ m : Nat, keep = (m : Int) := ⟨keep.toNat, by omega⟩
          have hEQ : xt = dat.take (q + m) := by
            have h0 := HXT.out
            unfold left at h0
            rw [h0]
            congr 1
            simp only
            omega
          rw [hLL] at HJA
          clear hLL
          have HS1 := hd (fun (Y : World) (hY : Y.heap = wr.heap) => same_is (.slice uT xt.length vT) (.slice uA (q + m) vA) xt (dat.take (q + m)) Y (JB.same HJT.out fun g _ => by rw [hY]).isB ((JB.same HJA.out fun g _ => by rw [hY]).isB.take (q + m) (by have := HLL.out; omega)))
          rw [decide_eq_true hEQ] at HS1
          have HS2 := hd (fun (Y : World) (hY : Y.heap = wr.heap) => same_is (.slice uL q vL) (.slice uA q vA) xl (dat.take q) Y (JB.same HJL.out fun g _ => by rw [hY]).isB ((JB.same HJA.out fun g _ => by rw [hY]).isB.take q (by have := HLL.out; omega)))
          rw [decide_eq_true hxl] at HS2
          have R1 : ∀ w : World, (slO 27 (.slice uA L vA) none (some (.int .i64 ((q : Int) + (m : Int)))) none).run Try.prog w = .ok (.slice uA (q + m) vA) w := by
            have h := (run_slO_to (k := q + m) HJA.out.isB (by have := HLL.out; omega) (by have := HLL.out; omega)).1
            rw [← HLL.out] at h
            rw [show ((q : Int) + (m : Int) : Int) = ((q + m : Nat) : Int) by omega]
            exact h
          have R2 : ∀ w : World, (slO 27 (.slice uA L vA) none (some (.int .i64 (q : Int))) none).run Try.prog w = .ok (.slice uA q vA) w := by
            have h := (run_slO_to (k := q) HJA.out.isB (by have := HLL.out; omega) (by have := HLL.out; omega)).1
            rw [← HLL.out] at h
            exact h
          have HEQ := hd hEQ; have HXL := hd hxl
          clear hEQ hxl
          go_wp2_with fail
          go_quiet (fail)
          go_wp2_with fail
          go_quiet (fail)
          go_wp2_with fail
          go_quiet ((go_at_call 17; exact quiet_at (HS1.out _ rfl)))
          go_wp2_with fail
          go_quiet ((go_at_call 17; exact quiet_at (HS2.out _ rfl)))
          go_wp2_with fail
          go_roundw
          case rel =>
            refine ⟨k + 1, by omega, by go_num, ?_⟩
            obtain ⟨n, hn⟩ := HWR.out
            subst hn
            simp only [World.drewN_drewN]
            exact ⟨_, rfl⟩
          case measure => simp [intOf]; omega
        · have hEQ : xt = dat.take (L) := by
            have h0 := HXT.out
            unfold left at h0
            rw [h0]
            congr 1
            simp only
            omega
          rw [hLL] at HJA
          clear hLL
          have HS1 := hd (fun (Y : World) (hY : Y.heap = wr.heap) => same_is (.slice uT xt.length vT) (.slice uA (L) vA) xt (dat.take (L)) Y (JB.same HJT.out fun g _ => by rw [hY]).isB ((JB.same HJA.out fun g _ => by rw [hY]).isB.take (L) (by have := HLL.out; omega)))
          rw [decide_eq_true hEQ] at HS1
          have HS2 := hd (fun (Y : World) (hY : Y.heap = wr.heap) => same_is (.slice uL q vL) (.slice uA q vA) xl (dat.take q) Y (JB.same HJL.out fun g _ => by rw [hY]).isB ((JB.same HJA.out fun g _ => by rw [hY]).isB.take q (by have := HLL.out; omega)))
          rw [decide_eq_true hxl] at HS2
          have R1 : ∀ w : World, (slO 27 (.slice uA L vA) none (some (.int .i64 ((q : Int) + ((L : Int) - (q : Int))))) none).run Try.prog w = .ok (.slice uA (L) vA) w := by
            have h := (run_slO_to (k := L) HJA.out.isB (by have := HLL.out; omega) (by have := HLL.out; omega)).1
            rw [← HLL.out] at h
            rw [show ((q : Int) + ((L : Int) - (q : Int)) : Int) = ((L : Nat) : Int) by omega]
            exact h
          have R2 : ∀ w : World, (slO 27 (.slice uA L vA) none (some (.int .i64 (q : Int))) none).run Try.prog w = .ok (.slice uA q vA) w := by
            have h := (run_slO_to (k := q) HJA.out.isB (by have := HLL.out; omega) (by have := HLL.out; omega)).1
            rw [← HLL.out] at h
            exact h
          have HEQ := hd hEQ; have HXL := hd hxl
          clear hEQ hxl
          go_wp2_with fail
          go_quiet (fail)
          go_wp2_with fail
          go_quiet (fail)
          go_wp2_with fail
          go_quiet ((go_at_call 17; exact quiet_at (HS1.out _ rfl)))
          go_wp2_with fail
          go_quiet ((go_at_call 17; exact quiet_at (HS2.out _ rfl)))
          go_wp2_with fail
          go_roundw
          case rel =>
            refine ⟨k + 1, by omega, by go_num, ?_⟩
            obtain ⟨n, hn⟩ := HWR.out
            subst hn
            simp only [World.drewN_drewN]
            exact ⟨_, rfl⟩
          case measure => simp [intOf]; omega
    · obtain rfl : S.fs.length = k := by omega
      have HBF : Hid (Below w.heap.size w wr) := by
        obtain ⟨n, hn⟩ := HWR.out
        subst hn
        exact ⟨HB7.out.os, HB7.out.tape, HB7.out.output, HB7.out.size, HB7.out.block⟩
      go_wp2_with fail
      go_ret
      exact ⟨rfl, HBF.out⟩
end Dk
end Go.Proofs.Ytiooodhgndklkaa
