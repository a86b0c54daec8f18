/-
  THE WALK OF frame.Encode, where Body gives the body.
-/
import Derived.Test.YtlddogigbodilaaQau
import Derived.Test.YtlddogigbodilaaQam
import Derived.Test.YtlddogigbodilaaQab
import Derived.Test.YtlddogigbodilaaQar
namespace Go.Proofs.Ytlddogigbodilaa
open Go.RowKit
namespace Vt
/-- a frame's bytes, in their parts -/
def ep (f : Fr) : List (List Nat) := [[167], dg 3 (wr (bd f)).length, wr (bd f), dg 5 (Crc.go 0 (dg 3 (wr (bd f)).length ++ wr (bd f)))]
def en (f : Fr) : List Nat := (ep f).flatten
theorem en_len (f : Fr) : (en f).length = (wr (bd f)).length + 9 := by
  unfold en ep; simp [dg_len]; omega
def BodyOk (f : Fr) : Prop := ∀ w, Calls Try.prog 83 #[.agg (fv f)] w fun e w' => ∃ u, e = .returned (.tuple #[u, .int .i64 0]) ∧ JB w' w.heap.size u (bd f) ∧ Below w.heap.size w w'
set_option maxRecDepth 100000 in
set_option maxHeartbeats 1000000 in
theorem encF_no (f : Fr) (w : World) (h : rf f ≠ 0) : Calls Try.prog 67 #[.agg (fv f)] w fun e w' => e = .returned (.tuple #[.slice none 0 0, .int .i64 (rf f : Int)]) ∧ Below w.heap.size w w' := by
  have HC := hd (fun w => body_no f w h)
  have hne : (((rf f : Nat) : Int) != 0) = true := by simp; omega
  generalize rf f = code at *
  clear h
  obtain ⟨k, ⟨rl, rk, rkey, rval⟩, ⟨pl, pk, pa, pn, pkey⟩, ⟨ec, eb, ef, es⟩⟩ := f
  simp only [fv] at *
  go_enter Try.func67, Try.ntmps67
  go_wp2_with fail
  refine Calls.mono (HC.out _) ?_
  rintro e w1 ⟨rfl, hb⟩
  have HB := hd (below_alloc1 hb)
  clear hb
  go_wp2_with fail
  go_ret2
  exact ⟨rfl, HB.out⟩
set_option maxRecDepth 100000 in
set_option maxHeartbeats 1000000 in
theorem encF_ok (f : Fr) (w : World) (hw : f.Wf) (h : rf f = 0) (hB : BodyOk f) : Calls Try.prog 67 #[.agg (fv f)] w fun e w' => ∃ u, e = .returned (.tuple #[u, .int .i64 0]) ∧ JB w' w.heap.size u (en f) ∧ Below w.heap.size w w' := by
  obtain ⟨hb1, hb2⟩ := bd_len hw h
  have hlen := (wr_len (bd f)).2
  have HEN : Hid (en f = [[167], dg 3 (wr (bd f)).length, wr (bd f), dg 5 (Crc.go 0 (dg 3 (wr (bd f)).length ++ wr (bd f)))].flatten) := rfl
  have HEL := hd (en_len f)
  unfold BodyOk at hB
  have HC := hd hB
  have hcr := Crc.go_lt 0 (dg 3 (wr (bd f)).length ++ wr (bd f))
  clear hB hw h
  rw [HEN.out] at HEL ⊢
  generalize hs : Crc.go 0 (dg 3 (wr (bd f)).length ++ wr (bd f)) = S at *
  have HS := hd hs
  generalize bd f = b at *
  have HP3 : Hid ((wr b).length < 128 ^ 3) := by
    show (wr b).length < 128 ^ 3
    have : (128 : Nat) ^ 3 = 2097152 := by decide
    omega
  have HP5 : Hid (S < 128 ^ 5) := by
    show S < 128 ^ 5
    have : (128 : Nat) ^ 5 = 34359738368 := by decide
    omega
  clear hs HEN
  obtain ⟨k, ⟨rl, rk, rkey, rval⟩, ⟨pl, pk, pa, pn, pkey⟩, ⟨ec, eb, ef, es⟩⟩ := f
  simp only [fv] at *
  go_enter Try.func67, Try.ntmps67
  go_wp2_with fail
  refine Calls.mono (HC.out _) ?_
  rintro e w1 ⟨u, rfl, hj, hb⟩
  have HB1 := hd (below_alloc1 hb)
  have HJ1 := hd hj
  clear hj hb HC
  go_wp2_with fail
  refine Calls.mono (wrap_is u b w1 HJ1.out.isB (by omega)) ?_
  rintro e w2 ⟨rfl, hj, hb⟩
  have HB2 : Hid (Below w.heap.size w w2) := HB1.out.trans (hb.mono HB1.out.size)
  have HJ2 := hd hj.isB
  clear hj hb HJ1 HB1
  go_wp2_with fail
  refine Calls.mono (digits_ok (wr b).length 3 w2 (by omega) (by omega) (by omega) HP3.out) ?_
  rintro e w3 ⟨rfl, hj, hb⟩
  have HB3 : Hid (Below w.heap.size w w3) := HB2.out.trans (hb.mono HB2.out.size)
  have HJ3 := hd (HJ2.out.below hb)
  have HD3 := hd hj.isB
  clear hj hb HJ2 HB2
  go_wp2_with fail
  refine Calls.mono (sum_two w3 w3.heap.size rfl _ _ _ _ HD3.out HJ3.out) ?_
  rw [HS.out]
  rintro e w4 ⟨rfl, hb⟩
  have HB4 : Hid (Below w.heap.size w w4) := HB3.out.trans (hb.mono HB3.out.size)
  have HJ4 := hd (HJ3.out.below hb)
  have HD4 := hd (HD3.out.below hb)
  clear hb HJ3 HD3 HB3
  go_wp2_with fail
  refine Calls.mono (digits_ok S 5 w4 (by omega) (by omega) (by omega) HP5.out) ?_
  rintro e w5 ⟨rfl, hj, hb⟩
  have HB5 : Hid (Below w.heap.size w w5) := HB4.out.trans (hb.mono HB4.out.size)
  have HJ5 := hd (HJ4.out.below hb)
  have HD5 := hd (HD4.out.below hb)
  have HS5 := hd hj.isB
  clear hj hb HJ4 HD4 HB4
  have HB6 : Hid (Below w.heap.size w (w5.alloc (.cells #[.int .u8 167] 5))) := HB5.out.alloc HB5.out.size _
  have HL6 := hd (lit_isK .u8 256 w5 #[.int .u8 167] 5 [167] 1 rfl rfl (by simp) (by simp [maxLen]))
  have hst : Below w5.heap.size w5 (w5.alloc (.cells #[.int .u8 167] 5)) := (Below.refl _ _).alloc (Nat.le_refl _) _
  have HP := hd (ps_lit (w5.alloc (.cells #[.int .u8 167] 5)) [.slice (some ⟨w5.heap.size, 0, none⟩) 1 1, .slice (some ⟨w2.heap.size, 0, none⟩) 3 3, .slice (some ⟨w1.heap.size, 0, none⟩) (wr b).length (wr b).length, .slice (some ⟨w4.heap.size, 0, none⟩) 5 5] [[167], dg 3 (wr b).length, wr b, dg 5 S] 22 rfl (by
    intro i v hv
    match i, hv with
    | 0, hv => cases hv; exact HL6.out
    | 1, hv => cases hv; exact HD5.out.below hst
    | 2, hv => cases hv; exact HJ5.out.below hst
    | 3, hv => cases hv; exact HS5.out.below hst
    | i + 4, hv => simp at hv))
  have HCC := hd (concat_row (w5.alloc (.cells #[.int .u8 167] 5)).heap.size 0 4 _ _ (by simp) (by simp) HP.out (by rw [HEL.out]; omega) (by rw [HEL.out]; omega))
  rw [World.size_alloc] at HCC
  clear hst HP HL6 HD5 HJ5 HS5 HEL
  go_wp2_with fail
  refine Calls.mono HCC.out ?_
  rintro e w7 ⟨u, rfl, hj5, hb5⟩
  have HJ7 := hd (hj5.base (base' := w.heap.size) (by have := HB5.out.size; rw [World.size_alloc, World.size_alloc]; omega))
  have HB7 : Hid (Below w.heap.size w w7) := HB6.out.trans ((below_alloc1 hb5).mono HB6.out.size)
  clear hj5 hb5 HCC
  go_wp2_with fail
  go_ret2
  exact ⟨u, rfl, HJ7.out, HB7.out⟩
end Vt
end Go.Proofs.Ytlddogigbodilaa
