/-
  THE WALK OF frame.Encode, where Body gives the body.
  A frame, byte by byte.
  FRAMES THERE AND BACK, PLAINLY: what was written is read; what is read is what would be written; the lead byte stands first alone.
  WHAT A SCAN FINDS, PLAINLY: the list 'locs' of all frames among some bytes, with their places (every place is asked); from lead byte to lead byte; frames laid down and found again; what is between.
-/
import Derived.Test.YtabfgoojhangnaaXeax
import Derived.Test.YtabfgoojhangnaaXeap
import Derived.Test.YtabfgoojhangnaaXeai
import Derived.Test.YtabfgoojhangnaaXeav
import Derived.Test.YtabfgoojhangnaaXeaw
namespace Go.Proofs.Ytabfgoojhangnaa
open Go.RowKit
namespace Vt
/-- a frame's bytes, in their parts -/
def ep (f : Fr) : List (List Nat) := [[167], dg 3 (wr (bd f)).length, wr (bd f), dg 5 (Crc.go 0 (dg 3 (wr (bd f)).length ++ wr (bd f)))]
def en (f : Fr) : List Nat := (ep f).flatten
theorem en_len (f : Fr) : (en f).length = (wr (bd f)).length + 9 := by
  unfold en ep; simp [dg_len]; omega
def BodyOk (f : Fr) : Prop := ∀ w, Calls Try.prog 38 #[.agg (fv f)] w fun e w' => ∃ u, e = .returned (.tuple #[u, .int .i64 0]) ∧ JB w' w.heap.size u (bd f) ∧ Below w.heap.size w w'
set_option maxRecDepth 100000 in
set_option maxHeartbeats 1000000 in
theorem encF_no (f : Fr) (w : World) (h : rf f ≠ 0) : Calls Try.prog 28 #[.agg (fv f)] w fun e w' => e = .returned (.tuple #[.slice none 0 0, .int .i64 (rf f : Int)]) ∧ Below w.heap.size w w' := by
  have HC := hd (fun w => body_no f w h)
  have hne : (((rf f : Nat) : Int) != 0) = true := by simp; omega
  generalize rf f = code at *
  clear h
  obtain ⟨k, ⟨rl, rk, rkey, rval⟩, ⟨pl, pk, pa, pn, pkey⟩, ⟨ec, eb, ef, es⟩⟩ := f
  simp only [fv] at *
  go_enter Try.func28, Try.ntmps28
  go_wp2_with fail
  refine Calls.mono (HC.out _) ?_
  rintro e w1 ⟨rfl, hb⟩
  have HB := hd (below_alloc1 hb)
  clear hb
  go_wp2_with fail
  go_ret2
  exact ⟨rfl, HB.out⟩
set_option maxRecDepth 100000 in
set_option maxHeartbeats 1000000 in
theorem encF_ok (f : Fr) (w : World) (hw : f.Wf) (h : rf f = 0) (hB : BodyOk f) : Calls Try.prog 28 #[.agg (fv f)] w fun e w' => ∃ u, e = .returned (.tuple #[u, .int .i64 0]) ∧ JB w' w.heap.size u (en f) ∧ Below w.heap.size w w' := by
  obtain ⟨hb1, hb2⟩ := bd_len hw h
  have hlen := (wr_len (bd f)).2
  have HEN : Hid (en f = [[167], dg 3 (wr (bd f)).length, wr (bd f), dg 5 (Crc.go 0 (dg 3 (wr (bd f)).length ++ wr (bd f)))].flatten) := rfl
  have HEL := hd (en_len f)
  unfold BodyOk at hB
  have HC := hd hB
  have hcr := Crc.go_lt 0 (dg 3 (wr (bd f)).length ++ wr (bd f))
  clear hB hw h
  rw [HEN.out] at HEL ⊢
  generalize hs : Crc.go 0 (dg 3 (wr (bd f)).length ++ wr (bd f)) = S at *
  have HS := hd hs
  generalize bd f = b at *
  have HP3 : Hid ((wr b).length < 128 ^ 3) := by
    show (wr b).length < 128 ^ 3
    have : (128 : Nat) ^ 3 = 2097152 := by decide
    omega
  have HP5 : Hid (S < 128 ^ 5) := by
    show S < 128 ^ 5
    have : (128 : Nat) ^ 5 = 34359738368 := by decide
    omega
  clear hs HEN
  obtain ⟨k, ⟨rl, rk, rkey, rval⟩, ⟨pl, pk, pa, pn, pkey⟩, ⟨ec, eb, ef, es⟩⟩ := f
  simp only [fv] at *
  go_enter Try.func28, Try.ntmps28
  go_wp2_with fail
  refine Calls.mono (HC.out _) ?_
  rintro e w1 ⟨u, rfl, hj, hb⟩
  have HB1 := hd (below_alloc1 hb)
  have HJ1 := hd hj
  clear hj hb HC
  go_wp2_with fail
  refine Calls.mono (wrap_is u b w1 HJ1.out.isB (by omega)) ?_
  rintro e w2 ⟨rfl, hj, hb⟩
  have HB2 : Hid (Below w.heap.size w w2) := HB1.out.trans (hb.mono HB1.out.size)
  have HJ2 := hd hj.isB
  clear hj hb HJ1 HB1
  go_wp2_with fail
  refine Calls.mono (digits_ok (wr b).length 3 w2 (by omega) (by omega) (by omega) HP3.out) ?_
  rintro e w3 ⟨rfl, hj, hb⟩
  have HB3 : Hid (Below w.heap.size w w3) := HB2.out.trans (hb.mono HB2.out.size)
  have HJ3 := hd (HJ2.out.below hb)
  have HD3 := hd hj.isB
  clear hj hb HJ2 HB2
  go_wp2_with fail
  refine Calls.mono (sum_two w3 w3.heap.size rfl _ _ _ _ HD3.out HJ3.out) ?_
  rw [HS.out]
  rintro e w4 ⟨rfl, hb⟩
  have HB4 : Hid (Below w.heap.size w w4) := HB3.out.trans (hb.mono HB3.out.size)
  have HJ4 := hd (HJ3.out.below hb)
  have HD4 := hd (HD3.out.below hb)
  clear hb HJ3 HD3 HB3
  go_wp2_with fail
  refine Calls.mono (digits_ok S 5 w4 (by omega) (by omega) (by omega) HP5.out) ?_
  rintro e w5 ⟨rfl, hj, hb⟩
  have HB5 : Hid (Below w.heap.size w w5) := HB4.out.trans (hb.mono HB4.out.size)
  have HJ5 := hd (HJ4.out.below hb)
  have HD5 := hd (HD4.out.below hb)
  have HS5 := hd hj.isB
  clear hj hb HJ4 HD4 HB4
  have HB6 : Hid (Below w.heap.size w (w5.alloc (.cells #[.int .u8 167] 5))) := HB5.out.alloc HB5.out.size _
  have HL6 := hd (lit_isK .u8 256 w5 #[.int .u8 167] 5 [167] 1 rfl rfl (by simp) (by simp [maxLen]))
  have hst : Below w5.heap.size w5 (w5.alloc (.cells #[.int .u8 167] 5)) := (Below.refl _ _).alloc (Nat.le_refl _) _
  have HP := hd (ps_lit (w5.alloc (.cells #[.int .u8 167] 5)) [.slice (some ⟨w5.heap.size, 0, none⟩) 1 1, .slice (some ⟨w2.heap.size, 0, none⟩) 3 3, .slice (some ⟨w1.heap.size, 0, none⟩) (wr b).length (wr b).length, .slice (some ⟨w4.heap.size, 0, none⟩) 5 5] [[167], dg 3 (wr b).length, wr b, dg 5 S] 22 rfl (by
    intro i v hv
    match i, hv with
    | 0, hv => cases hv; exact HL6.out
    | 1, hv => cases hv; exact HD5.out.below hst
    | 2, hv => cases hv; exact HJ5.out.below hst
    | 3, hv => cases hv; exact HS5.out.below hst
    | i + 4, hv => simp at hv))
  have HCC := hd (concat_row (w5.alloc (.cells #[.int .u8 167] 5)).heap.size 0 4 _ _ (by simp) (by simp) HP.out (by rw [HEL.out]; omega) (by rw [HEL.out]; omega))
  rw [World.size_alloc] at HCC
  clear hst HP HL6 HD5 HJ5 HS5 HEL
  go_wp2_with fail
  refine Calls.mono HCC.out ?_
  rintro e w7 ⟨u, rfl, hj5, hb5⟩
  have HJ7 := hd (hj5.base (base' := w.heap.size) (by have := HB5.out.size; rw [World.size_alloc, World.size_alloc]; omega))
  have HB7 : Hid (Below w.heap.size w w7) := HB6.out.trans ((below_alloc1 hb5).mono HB6.out.size)
  clear hj5 hb5 HCC
  go_wp2_with fail
  go_ret2
  exact ⟨u, rfl, HJ7.out, HB7.out⟩
end Vt
end Go.Proofs.Ytabfgoojhangnaa
namespace Go.Proofs.Ytabfgoojhangnaa
namespace Vt
theorem en_eq (f : Fr) : en f = 167 :: (dg 3 (wr (bd f)).length ++ (wr (bd f) ++ dg 5 (Crc.go 0 (dg 3 (wr (bd f)).length ++ wr (bd f))))) := by
  unfold en ep; simp
end Vt
end Go.Proofs.Ytabfgoojhangnaa
namespace Go.Proofs.Ytabfgoojhangnaa
namespace Vt
theorem nx_none {l : List Nat} (h : ∀ x ∈ l, x ≠ 167) : nx l = l.length := by
  unfold nx
  rw [List.findIdx_eq_length]
  intro x hx
  simpa using h x hx
theorem p3 : (128 : Nat) ^ 3 = 2097152 := by decide
theorem p5 : (128 : Nat) ^ 5 = 34359738368 := by decide
/-- what was written is read, whatever stands behind -/
theorem dcd_en {f : Fr} (hw : f.Wf) (h : rf f = 0) (r : List Nat) : dcd (en f ++ r) = (f, (en f).length, 0) := by
  obtain ⟨hb1, hb2⟩ := bd_len hw h
  have hl := (wr_len (bd f)).2
  have hp := prs_bd hw h
  have hS := Crc.go_lt 0 (dg 3 (wr (bd f)).length ++ wr (bd f))
  have hEL := en_len f
  have hno := wr_no (bd f)
  have hplain := plain_wr (bd f)
  have hbad := badB_wr (bd f) 0
  rw [en_eq] at hEL ⊢
  generalize hW : wr (bd f) = W at *
  generalize hSS : Crc.go 0 (dg 3 W.length ++ W) = S at *
  have hN3 : nm (dg 3 W.length) = W.length := by rw [nm_dg, p3]; omega
  have hS5 : nm (dg 5 S) = S := by rw [nm_dg, p5]; omega
  have d3 := dg_len 3 W.length
  have d5 := dg_len 5 S
  have hm : (167 :: (dg 3 W.length ++ (W ++ dg 5 S))) ++ r = 167 :: (dg 3 W.length ++ (W ++ (dg 5 S ++ r))) := by simp
  rw [hm]
  have hdig : dig (167 :: (dg 3 W.length ++ (W ++ (dg 5 S ++ r)))) = dg 3 W.length := by
    unfold dig
    rw [List.drop_succ_cons, List.drop_zero, List.take_append_of_le_length (by omega), List.take_of_length_le (by omega)]
  have hlen : (167 :: (dg 3 W.length ++ (W ++ (dg 5 S ++ r)))).length = W.length + 9 + r.length := by simp [d3, d5]; omega
  have hrl : rl (167 :: (dg 3 W.length ++ (W ++ (dg 5 S ++ r)))) = (W.length, 0) := by
    have := rl_0 (l := 167 :: (dg 3 W.length ++ (W ++ (dg 5 S ++ r)))) rfl (by rw [hdig]; exact dg_lt _ _) (by rw [hlen]; omega) (by rw [hdig, hN3, hlen]; omega)
    rw [this, hdig, hN3]
  have h4 : (167 :: (dg 3 W.length ++ (W ++ (dg 5 S ++ r)))).drop 4 = W ++ (dg 5 S ++ r) := by
    rw [show (4 : Nat) = 3 + 1 by omega, List.drop_succ_cons, List.drop_left' d3]
  have hE : ((167 :: (dg 3 W.length ++ (W ++ (dg 5 S ++ r)))).drop 4).take W.length = W := by rw [h4, List.take_left]
  have hT : ((167 :: (dg 3 W.length ++ (W ++ (dg 5 S ++ r)))).drop (4 + W.length)).take 5 = dg 5 S := by
    rw [← List.drop_drop, h4, List.drop_left, List.take_left' d5]
  have hM : ((167 :: (dg 3 W.length ++ (W ++ (dg 5 S ++ r)))).drop 1).take (3 + W.length) = dg 3 W.length ++ W := by
    rw [List.drop_succ_cons, List.drop_zero, ← List.append_assoc, List.take_left' (by rw [List.length_append, d3])]
  have hO : opF W = some f := by
    have := opF_yes (l := W) (by rw [hbad]) (by rw [hplain, hp]) (by rw [hplain, hp]; exact h)
    rw [this, hplain, hp]
  unfold dcd
  rw [hrl]
  simp only
  rw [hE, hT, hM, if_neg (by simp), if_neg (by rw [nx_none hno]; omega), if_neg (fun q => q ⟨dg_lt _ _, by rw [hS5, hSS]⟩), hO]
  simp only
  rw [hEL]
/-- what is read is what would be written -/
theorem en_dcd {m : List Nat} (hb : Byt m) (h : (dcd m).2.2 = 0) : rf (dcd m).1 = 0 ∧ (dcd m).1.Wf ∧ (dcd m).2.1 = (en (dcd m).1).length ∧ (dcd m).2.1 ≤ m.length ∧ m.take (dcd m).2.1 = en (dcd m).1 := by
  by_cases h1 : (rl m).2 ≠ 0
  · unfold dcd at h; rw [if_pos h1] at h; exact absurd h h1
  · obtain ⟨n, er, hn⟩ : ∃ n er, rl m = (n, er) := ⟨_, _, rfl⟩
    rw [hn] at h1
    simp only at h1
    obtain rfl : er = 0 := by omega
    obtain ⟨r1, r2, r3, r4, r5, r6⟩ := rl_ok hn
    unfold dcd at h ⊢
    rw [hn] at h ⊢
    simp only at h ⊢
    rw [if_neg (by simp)] at h ⊢
    by_cases c1 : nx ((m.drop 4).take n) < n
    · rw [if_pos c1] at h; simp at h
    · rw [if_neg c1] at h ⊢
      by_cases c2 : ¬ ((∀ x ∈ (m.drop (4 + n)).take 5, x < 128) ∧ nm ((m.drop (4 + n)).take 5) = Crc.go 0 ((m.drop 1).take (3 + n)))
      · rw [if_pos c2] at h; simp at h
      · rw [if_neg c2] at h ⊢
        obtain ⟨s1, s2⟩ := Classical.not_not.1 c2
        cases ho : opF ((m.drop 4).take n) with
        | none => rw [ho] at h; simp at h
        | some f =>
          simp only
          unfold opF at ho
          split at ho
          · rename_i c3
            obtain ⟨o1, o2, o3⟩ := c3
            injection ho with ho
            have hpb : Byt (plain ((m.drop 4).take n)) := plain_byt (byt_take (byt_drop hb 4) n)
            obtain ⟨q1, q2⟩ := bd_prs hpb o3 (by rw [o2]) (by rw [o2])
            rw [ho] at o3 q1 q2
            have hW : wr (bd f) = (m.drop 4).take n := by rw [q1]; exact only o1
            have hWl : (wr (bd f)).length = n := by rw [hW, List.length_take, List.length_drop]; omega
            have hD : dg 3 n = dig m := by
              have := dg_nm r2
              rw [dig_len, show min 3 (m.length - 1) = 3 by omega, ← r4] at this
              exact this
            have hT : dg 5 (Crc.go 0 ((m.drop 1).take (3 + n))) = (m.drop (4 + n)).take 5 := by
              have := dg_nm s1
              rw [List.length_take, List.length_drop, show min 5 (m.length - (4 + n)) = 5 by omega, s2] at this
              exact this
            have hmid : dig m ++ (m.drop 4).take n = (m.drop 1).take (3 + n) := by
              unfold dig
              rw [List.take_add, List.drop_drop]
            have hen : en f = 167 :: (dig m ++ ((m.drop 4).take n ++ (m.drop (4 + n)).take 5)) := by
              rw [en_eq, hWl, hW, hD, hmid, hT]
            have htake : m.take (n + 9) = 167 :: (dig m ++ ((m.drop 4).take n ++ (m.drop (4 + n)).take 5)) := by
              have e0 : m.take (n + 9) = m.take 1 ++ ((m.drop 1).take (3 + n) ++ (m.drop (4 + n)).take 5) := by
                rw [show n + 9 = 1 + (3 + n + 5) by omega, List.take_add, List.take_add, List.drop_drop, show 1 + (3 + n) = 4 + n by omega]
              have e1 : m.take 1 = [167] := by
                cases m with
                | nil => simp at r3
                | cons x t => simp at r1; simp [r1]
              rw [e0, e1, ← hmid]
              simp
            refine ⟨o3, q2, ?_, r5, ?_⟩
            · rw [en_len, hWl]
            · rw [htake, hen]
          · cases ho
theorem en_no {f : Fr} {j : Nat} (h1 : 1 ≤ j) (h2 : j < (en f).length) : (en f).getD j 0 ≠ 167 := by
  have key : ∀ x ∈ (en f).drop 1, x ≠ 167 := by
    rw [en_eq]
    intro x hx
    simp only [List.drop_succ_cons, List.drop_zero, List.mem_append] at hx
    rcases hx with hx | hx | hx
    · have := dg_lt _ _ x hx; omega
    · exact wr_no _ x hx
    · have := dg_lt _ _ x hx; omega
  refine key _ ?_
  rw [List.getD_eq_getElem?_getD, List.getElem?_eq_getElem h2, Option.getD_some]
  refine List.mem_iff_getElem.2 ⟨j - 1, by rw [List.length_drop]; omega, ?_⟩
  rw [List.getElem_drop]
  congr 1
  omega
theorem en_head (f : Fr) : (en f).getD 0 0 = 167 := by rw [en_eq]; rfl
theorem dcd_err {m : List Nat} (h : (dcd m).2.2 ≠ 0) : (dcd m).1 = zf ∧ (dcd m).2.1 = 0 := by
  unfold dcd at h ⊢
  by_cases h1 : (rl m).2 ≠ 0
  · rw [if_pos h1]; exact ⟨rfl, rfl⟩
  · rw [if_neg h1] at h ⊢
    by_cases h2 : nx ((m.drop 4).take (rl m).1) < (rl m).1
    · rw [if_pos h2]; exact ⟨rfl, rfl⟩
    · rw [if_neg h2] at h ⊢
      by_cases h3 : ¬ ((∀ x ∈ (m.drop (4 + (rl m).1)).take 5, x < 128) ∧ nm ((m.drop (4 + (rl m).1)).take 5) = Crc.go 0 ((m.drop 1).take (3 + (rl m).1)))
      · rw [if_pos h3]; exact ⟨rfl, rfl⟩
      · rw [if_neg h3] at h ⊢
        cases ho : opF ((m.drop 4).take (rl m).1) with
        | none => exact ⟨rfl, rfl⟩
        | some f => rw [ho] at h; exact absurd rfl h
theorem decF_err {l : List Nat} {z : Int} (h : (decF l z).2.2 ≠ 0) : (decF l z).1 = zf ∧ (decF l z).2.1 = 0 := by
  unfold decF at h ⊢
  by_cases h1 : z < 0 ∨ (l.length : Int) ≤ z
  · rw [if_pos h1]; exact ⟨rfl, rfl⟩
  · rw [if_neg h1] at h ⊢; exact dcd_err h
theorem decF_ok {l : List Nat} {z : Int} (hb : Byt l) (h : (decF l z).2.2 = 0) : ∃ a : Nat, z = (a : Int) ∧ a < l.length ∧ rf (decF l z).1 = 0 ∧ (decF l z).1.Wf ∧ (decF l z).2.1 = (en (decF l z).1).length ∧ a + (decF l z).2.1 ≤ l.length ∧ (l.drop a).take (decF l z).2.1 = en (decF l z).1 := by
  unfold decF at h ⊢
  by_cases h1 : z < 0 ∨ (l.length : Int) ≤ z
  · rw [if_pos h1] at h; simp at h
  · rw [if_neg h1] at h ⊢
    obtain ⟨a, rfl⟩ : ∃ a : Nat, z = (a : Int) := ⟨z.toNat, by omega⟩
    rw [Int.toNat_natCast] at h ⊢
    obtain ⟨e1, e2, e3, e4, e5⟩ := en_dcd (byt_drop hb a) h
    rw [List.length_drop] at e4
    exact ⟨a, rfl, by omega, e1, e2, e3, by omega, e5⟩
theorem en_pos (f : Fr) : 9 ≤ (en f).length := by rw [en_len]; omega
/-- no two frames have a byte in common -/
theorem apart {l : List Nat} {x y : Int} (hb : Byt l) (hx : (decF l x).2.2 = 0) (hy : (decF l y).2.2 = 0) (hne : x < y) : x + ((decF l x).2.1 : Int) ≤ y := by
  obtain ⟨a, rfl, ha, _, _, a3, a4, a5⟩ := decF_ok hb hx
  obtain ⟨b, rfl, hb', _, _, b3, b4, b5⟩ := decF_ok hb hy
  have hab : a < b := by omega
  refine Classical.byContradiction fun hn => ?_
  have hlt : b < a + (decF l (a : Int)).2.1 := by omega
  have h1 : l.getD b 0 = 167 := by
    have e := congrArg (fun q => q.getD 0 0) b5
    rw [en_head] at e
    rw [← e, List.getD_eq_getElem?_getD, List.getD_eq_getElem?_getD, List.getElem?_take, if_pos (by rw [b3]; have := en_pos (decF l (b : Int)).1; omega), List.getElem?_drop, Nat.add_zero]
  have h2 := en_no (f := (decF l (a : Int)).1) (j := b - a) (by omega) (by rw [← a3]; omega)
  have e := congrArg (fun q => q.getD (b - a) 0) a5
  rw [← e, List.getD_eq_getElem?_getD, List.getElem?_take, if_pos (by omega), List.getElem?_drop, show a + (b - a) = b by omega, ← List.getD_eq_getElem?_getD] at h2
  exact h2 h1
end Vt
end Go.Proofs.Ytabfgoojhangnaa
namespace Go.Proofs.Ytabfgoojhangnaa
namespace Vt
theorem dcd_lead {m : List Nat} (hb : Byt m) (h : (dcd m).2.2 = 0) : m.getD 0 0 = 167 ∧ m ≠ [] := by
  obtain ⟨_, _, e3, e4, e5⟩ := en_dcd hb h
  have hp := en_pos (dcd m).1
  have e := congrArg (fun q => q.getD 0 0) e5
  rw [en_head] at e
  constructor
  · rw [← e, List.getD_eq_getElem?_getD, List.getD_eq_getElem?_getD, List.getElem?_take, if_pos (by omega)]
  · rintro rfl; simp at e4; omega
/-- within a frame there is no lead byte -/
theorem dcd_in {m : List Nat} (hb : Byt m) (h : (dcd m).2.2 = 0) {j : Nat} (h1 : 1 ≤ j) (h2 : j < (dcd m).2.1) : m.getD j 0 ≠ 167 := by
  obtain ⟨_, _, e3, e4, e5⟩ := en_dcd hb h
  have e := congrArg (fun q => q.getD j 0) e5
  have h3 := en_no (f := (dcd m).1) (j := j) h1 (by omega)
  rw [← e, List.getD_eq_getElem?_getD, List.getElem?_take, if_pos h2, ← List.getD_eq_getElem?_getD] at h3
  exact h3
theorem getD_drop0 (l : List Nat) (i : Nat) : (l.drop i).getD 0 0 = l.getD i 0 := by
  rw [List.getD_eq_getElem?_getD, List.getD_eq_getElem?_getD, List.getElem?_drop, Nat.add_zero]
/-- a frame's place, its length, the frame -/
abbrev Lc := Nat × Nat × Fr
open Classical in
/-- all frames of the bytes l, the first of which stands at at_: every place is asked -/
noncomputable def locs (at_ : Nat) : List Nat → List Lc
  | [] => []
  | x :: r => if (dcd (x :: r)).2.2 = 0 then (at_, (dcd (x :: r)).2.1, (dcd (x :: r)).1) :: locs (at_ + 1) r else locs (at_ + 1) r
theorem locs_nil (at_ : Nat) : locs at_ [] = [] := rfl
theorem locs_err {at_ : Nat} {l : List Nat} (h : (dcd l).2.2 ≠ 0) : locs at_ l = locs (at_ + 1) (l.drop 1) := by
  cases l with
  | nil => rfl
  | cons x r => rw [locs, if_neg h]; rfl
theorem locs_skip (j : Nat) : ∀ (at_ : Nat) (l : List Nat), (∀ i, i < j → (dcd (l.drop i)).2.2 ≠ 0) → locs at_ l = locs (at_ + j) (l.drop j) := by
  induction j with
  | zero => intro at_ l _; rw [List.drop_zero, Nat.add_zero]
  | succ j ih =>
    intro at_ l h
    have h0 := h 0 (by omega)
    rw [List.drop_zero] at h0
    rw [locs_err h0, ih (at_ + 1) (l.drop 1) (fun i hi => by rw [List.drop_drop]; have := h (1 + i) (by omega); exact this), List.drop_drop]
    rw [show at_ + 1 + j = at_ + (j + 1) by omega, show 1 + j = j + 1 by omega]
theorem nx_lt {l : List Nat} {i : Nat} (h : i < nx l) : l.getD i 0 ≠ 167 := by
  have hl := nx_le l
  have h2 := List.not_of_lt_findIdx h
  rw [List.getD_eq_getElem?_getD, List.getElem?_eq_getElem (by omega)]
  simpa using h2
theorem nx_at {l : List Nat} (h : nx l < l.length) : l.getD (nx l) 0 = 167 := by
  have h2 := List.findIdx_getElem (xs := l) (p := (· == 167)) (w := h)
  rw [List.getD_eq_getElem?_getD, List.getElem?_eq_getElem h]
  exact eq_of_beq h2
theorem locs_next {l : List Nat} (hb : Byt l) (at_ : Nat) : locs at_ l = locs (at_ + nx l) (l.drop (nx l)) := by
  refine locs_skip _ _ _ fun i hi h => ?_
  have h1 := (dcd_lead (byt_drop hb i) h).1
  rw [getD_drop0] at h1
  exact nx_lt hi h1
theorem locs_ok {l : List Nat} (hb : Byt l) (at_ : Nat) (h : (dcd l).2.2 = 0) : locs at_ l = (at_, (dcd l).2.1, (dcd l).1) :: locs (at_ + (dcd l).2.1) (l.drop (dcd l).2.1) := by
  obtain ⟨_, _, e3, e4, e5⟩ := en_dcd hb h
  have hp := en_pos (dcd l).1
  cases l with
  | nil => simp at e4; omega
  | cons x r =>
    rw [locs, if_pos h]
    congr 1
    have := locs_skip ((dcd (x :: r)).2.1 - 1) (at_ + 1) r (fun i hi hc => by
      have h1 := (dcd_lead (byt_drop (l := r) (fun y hy => hb y (List.mem_cons_of_mem _ hy)) i) hc).1
      rw [getD_drop0] at h1
      have h2 := dcd_in hb h (j := i + 1) (by omega) (by omega)
      rw [List.getD_cons_succ] at h2
      exact h2 h1)
    rw [this, show at_ + 1 + ((dcd (x :: r)).2.1 - 1) = at_ + (dcd (x :: r)).2.1 by omega]
    congr 1
    obtain ⟨m, hm⟩ : ∃ m, (dcd (x :: r)).2.1 = m + 1 := ⟨(dcd (x :: r)).2.1 - 1, by omega⟩
    rw [hm, List.drop_succ_cons, Nat.add_sub_cancel]
/-- what is laid down is found -/
theorem locs_en {f : Fr} (hw : f.Wf) (h : rf f = 0) {r : List Nat} (hb : Byt (en f ++ r)) (at_ : Nat) : locs at_ (en f ++ r) = (at_, (en f).length, f) :: locs (at_ + (en f).length) r := by
  have e := dcd_en hw h r
  have := locs_ok hb at_ (by rw [e])
  rw [this, e]
  simp only
  rw [List.drop_left' rfl]
/-- junk without the lead byte is passed by -/
theorem locs_junk {j : List Nat} (hj : ∀ x ∈ j, x ≠ 167) {r : List Nat} (hb : Byt (j ++ r)) (at_ : Nat) : locs at_ (j ++ r) = locs (at_ + j.length) r := by
  have := locs_skip j.length at_ (j ++ r) (fun i hi hc => by
    have h1 := (dcd_lead (byt_drop hb i) hc).1
    rw [getD_drop0, List.getD_eq_getElem?_getD, List.getElem?_append_left hi, List.getElem?_eq_getElem hi] at h1
    exact hj _ (List.getElem_mem hi) h1)
  rw [this, List.drop_left' rfl]
theorem locs_shift (l : List Nat) : ∀ (q at_ : Nat), locs (q + at_) l = (locs at_ l).map fun x => (q + x.1, x.2) := by
  induction l with
  | nil => intro q at_; rfl
  | cons x r ih =>
    intro q at_
    rw [locs, locs, Nat.add_assoc, ih q (at_ + 1)]
    split
    · rw [List.map_cons]
    · rfl
/-- a found frame stands in the bytes -/
theorem locs_mem {l : List Nat} (hb : Byt l) : ∀ (at_ : Nat) (x : Lc), x ∈ locs at_ l → at_ ≤ x.1 ∧ x.1 + x.2.1 ≤ at_ + l.length ∧ dcd (l.drop (x.1 - at_)) = (x.2.2, x.2.1, 0) ∧ 9 ≤ x.2.1 ∧ rf x.2.2 = 0 ∧ x.2.2.Wf := by
  induction l with
  | nil => intro at_ x hx; rw [locs] at hx; cases hx
  | cons y r ih =>
    intro at_ x hx
    have hbr : Byt r := fun z hz => hb z (List.mem_cons_of_mem _ hz)
    have go : x ∈ locs (at_ + 1) r → at_ ≤ x.1 ∧ x.1 + x.2.1 ≤ at_ + (y :: r).length ∧ dcd ((y :: r).drop (x.1 - at_)) = (x.2.2, x.2.1, 0) ∧ 9 ≤ x.2.1 ∧ rf x.2.2 = 0 ∧ x.2.2.Wf := by
      intro hx
      obtain ⟨h1, h2, h3, h4⟩ := ih hbr (at_ + 1) x hx
      refine ⟨by omega, by rw [List.length_cons]; omega, ?_, h4⟩
      rw [show x.1 - at_ = (x.1 - (at_ + 1)) + 1 by omega, List.drop_succ_cons]; exact h3
    rw [locs] at hx
    split at hx
    · rename_i h
      rcases List.mem_cons.1 hx with rfl | hx
      · obtain ⟨e1, e2, e3, e4, e5⟩ := en_dcd hb h
        have hp := en_pos (dcd (y :: r)).1
        refine ⟨Nat.le_refl _, by simp only; omega, ?_, by simp only; omega, e1, e2⟩
        simp only
        rw [Nat.sub_self, List.drop_zero]
        exact Prod.ext rfl (Prod.ext rfl h)
      · exact go hx
    · exact go hx
/-- .. and whatever stands there is found -/
theorem locs_has {l : List Nat} : ∀ (at_ k : Nat), k < l.length → (dcd (l.drop k)).2.2 = 0 → (at_ + k, (dcd (l.drop k)).2.1, (dcd (l.drop k)).1) ∈ locs at_ l := by
  induction l with
  | nil => intro at_ k hk; simp at hk
  | cons y r ih =>
    intro at_ k hk h
    cases k with
    | zero =>
      rw [List.drop_zero] at h ⊢
      rw [locs, if_pos h]
      exact List.mem_cons_self
    | succ k =>
      rw [List.drop_succ_cons] at h ⊢
      have := ih (at_ + 1) k (by simpa using hk) h
      rw [show at_ + 1 + k = at_ + (k + 1) by omega] at this
      rw [locs]
      split
      · exact List.mem_cons_of_mem _ this
      · exact this
/-- an extent: junk or not, the place, the length -/
abbrev Ex := Bool × Int × Int
/-- a run of junk, unless it is empty -/
def jk1 (a b : Nat) : List Ex := if a = b then [] else [(true, (a : Int), (b : Int) - (a : Int))]
/-- one more frame -/
def exS (s : List Ex × Nat) (x : Lc) : List Ex × Nat := (s.1 ++ jk1 s.2 x.1 ++ [(false, (x.1 : Int), (x.2.1 : Int))], x.1 + x.2.1)
def exF (pre : List Lc) : List Ex × Nat := pre.foldl exS ([], 0)
theorem exF_snoc (pre : List Lc) (x : Lc) : exF (pre ++ [x]) = exS (exF pre) x := by unfold exF; rw [List.foldl_append]; rfl
/-- the extents of some bytes -/
noncomputable def exts (l : List Nat) : List Ex := (exF (locs 0 l)).1 ++ jk1 (exF (locs 0 l)).2 l.length
/-- the extents from a place on -/
def exR : Nat → List Lc → Nat → List Ex
  | e, [], N => jk1 e N
  | e, x :: r, N => jk1 e x.1 ++ (false, (x.1 : Int), (x.2.1 : Int)) :: exR (x.1 + x.2.1) r N
theorem exF_go (pre : List Lc) (N : Nat) : ∀ s : List Ex × Nat, (pre.foldl exS s).1 ++ jk1 (pre.foldl exS s).2 N = s.1 ++ exR s.2 pre N := by
  induction pre with
  | nil => intro s; rfl
  | cons x r ih => intro s; rw [List.foldl_cons, ih]; simp [exS, exR, List.append_assoc]
theorem exts_eq (l : List Nat) : exts l = exR 0 (locs 0 l) l.length := by
  have := exF_go (locs 0 l) l.length ([], 0)
  rw [List.nil_append] at this
  exact this
/-- the frames alone -/
def cln (l : List Nat) (pre : List Lc) : List Nat := (pre.map fun x => (l.drop x.1).take x.2.1).flatten
theorem cln_snoc (l : List Nat) (pre : List Lc) (x : Lc) : cln l (pre ++ [x]) = cln l pre ++ (l.drop x.1).take x.2.1 := by simp [cln]
theorem jk1_len (a b : Nat) : (jk1 a b).length ≤ 1 := by unfold jk1; split <;> simp
theorem exF_len (pre : List Lc) : (exF pre).1.length ≤ 2 * pre.length := by
  have key : ∀ (q : List Lc) (s : List Ex × Nat), (q.foldl exS s).1.length ≤ s.1.length + 2 * q.length := by
    intro q
    induction q with
    | nil => intro s; simp
    | cons x r ih =>
      intro s
      rw [List.foldl_cons]
      have h1 := ih (exS s x)
      have h2 := jk1_len s.2 x.1
      simp only [exS, List.length_append, List.length_cons, List.length_nil] at h1 ⊢
      omega
  have := key pre ([], 0)
  simpa [exF] using this
theorem locs_len {l : List Nat} (hb : Byt l) : ∀ n, l.length ≤ n → ∀ at_, 9 * (locs at_ l).length ≤ l.length := by
  intro n
  induction n generalizing l with
  | zero =>
    intro h at_
    obtain rfl : l = [] := List.length_eq_zero_iff.1 (by omega)
    simp [locs]
  | succ n ih =>
    intro h at_
    by_cases hne : l = []
    · subst hne; simp [locs]
    · have hlen : 1 ≤ l.length := by cases l with
        | nil => exact absurd rfl hne
        | cons x r => simp
      by_cases he : (dcd l).2.2 = 0
      · obtain ⟨_, _, e3, e4, _⟩ := en_dcd hb he
        have hp := en_pos (dcd l).1
        rw [locs_ok hb at_ he, List.length_cons]
        have := ih (l := l.drop (dcd l).2.1) (byt_drop hb _) (by rw [List.length_drop]; omega) (at_ + (dcd l).2.1)
        rw [List.length_drop] at this
        omega
      · rw [locs_err he]
        have := ih (l := l.drop 1) (byt_drop hb _) (by rw [List.length_drop]; omega) (at_ + 1)
        rw [List.length_drop] at this
        omega
end Vt
end Go.Proofs.Ytabfgoojhangnaa
