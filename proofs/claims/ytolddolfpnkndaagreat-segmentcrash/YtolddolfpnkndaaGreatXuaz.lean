/-
  Sum OF ONE, TWO, THREE PARTS that the caller has just laid side by side; parts of a slice.
  THE WALK OF frame.Encode, where Body gives the body.
-/
import Derived.Test.YtolddolfpnkndaaGreatXuay
import Derived.Test.YtolddolfpnkndaaGreatXuau
import Derived.Test.YtolddolfpnkndaaGreatXuav
import Derived.Test.YtolddolfpnkndaaGreatXuat
namespace Go.Proofs.YtolddolfpnkndaaGreat
open Go.RowKit
theorem IsB.take {w : World} {b off n c : Nat} {l : List Nat} (h : IsB w (.slice (some ⟨b, off, none⟩) n c) l) (k : Nat) (hk : k ≤ n) : IsB w (.slice (some ⟨b, off, none⟩) k c) (l.take k) := by
  obtain ⟨h1, h2, ⟨rfl, a, c', e⟩ | ⟨b', off', c', e, h3, h4, h5, h6⟩⟩ := h
  · injection e with e1 e2 e3
    obtain rfl : k = 0 := by omega
    exact ⟨by rw [List.take_nil]; exact h1, by simp, .inl ⟨by simp, _, _, rfl⟩⟩
  · injection e with e1 e2 e3
    injection e1 with e1
    injection e1 with e4 e5
    subst e2 e3 e4 e5
    have hl : (l.take k).length = k := by rw [List.length_take]; omega
    exact ⟨byt_take h1 k, by rw [hl]; omega, .inr ⟨_, _, _, by rw [hl], by rw [hl]; omega, h4, h5, row_take h6 k⟩⟩
theorem IsB.drop {w : World} {b off n c : Nat} {l : List Nat} (h : IsB w (.slice (some ⟨b, off, none⟩) n c) l) (k : Nat) (hk : k ≤ n) (o m d : Nat) (ho : k < n → o = off + k) (hm : m = n - k) (hd : d = c - k) : IsB w (.slice (some ⟨b, o, none⟩) m d) (l.drop k) := by
  obtain ⟨h1, h2, ⟨rfl, a, c', e⟩ | ⟨b', off', c', e, h3, h4, h5, h6⟩⟩ := h
  · injection e with e1 e2 e3
    obtain rfl : k = 0 := by omega
    subst hm e2
    exact ⟨by rw [List.drop_nil]; exact h1, by simp, .inl ⟨by simp, _, _, rfl⟩⟩
  · injection e with e1 e2 e3
    injection e1 with e1
    injection e1 with e4 e5
    subst e2 e3 e4 e5
    have hl : (l.drop k).length = m := by rw [List.length_drop]; omega
    refine ⟨byt_drop h1 k, by rw [hl]; omega, .inr ⟨_, _, _, by rw [hl], by rw [hl]; omega, by omega, h5, ?_⟩⟩
    by_cases hlt : k < l.length
    · rw [ho hlt]; exact row_drop h6 k
    · intro j hj; rw [hl] at hj; omega
theorem cell_new (U : World) (C : Array Value) (t : TypeId) (N i : Nat) (hN : N = U.heap.size) : (U.alloc (.cells C t)).cell? ⟨N, 0 + i, none⟩ = C[i]? := by
  subst hN; rw [Nat.zero_add, World.cell?_alloc_new]
theorem below_alloc {U w' : World} (o : Obj) (h : Below (U.alloc o).heap.size (U.alloc o) w') : Below U.heap.size U w' := by
  have : U.heap.size ≤ (U.alloc o).heap.size := by simp
  exact ((Below.refl _ _).alloc (Nat.le_refl _) o).trans (h.mono this)
theorem sum_one (U : World) (N : Nat) (hN : N = U.heap.size) (v0 : Value) (l0 : List Nat) (h0 : IsB U v0 l0) :
    Calls Tryz.prog 41 #[.slice (some ⟨N, 0, none⟩) 1 1] (U.alloc (.cells #[v0] 49)) fun e w' => e = .returned (.int .u32 ((Crc.go 0 l0 : Nat) : Int)) ∧ Below U.heap.size U w' := by
  have hb : Below U.heap.size U (U.alloc (.cells #[v0] 49)) := (Below.refl _ _).alloc (Nat.le_refl _) _
  refine (sum_row N 0 1 [l0] _ (by simp [maxLen]) (by subst hN; simp) ?_).mono ?_
  · intro i hi
    rw [cell_new U _ _ N i hN]
    match i, hi with
    | 0, _ => exact ⟨v0, rfl, h0.below hb⟩
  · rintro e w' ⟨rfl, h⟩
    exact ⟨by simp, below_alloc _ h⟩
theorem sum_two (U : World) (N : Nat) (hN : N = U.heap.size) (v0 v1 : Value) (l0 l1 : List Nat) (h0 : IsB U v0 l0) (h1 : IsB U v1 l1) :
    Calls Tryz.prog 41 #[.slice (some ⟨N, 0, none⟩) 2 2] (U.alloc (.cells #[v0, v1] 49)) fun e w' => e = .returned (.int .u32 ((Crc.go 0 (l0 ++ l1) : Nat) : Int)) ∧ Below U.heap.size U w' := by
  have hb : Below U.heap.size U (U.alloc (.cells #[v0, v1] 49)) := (Below.refl _ _).alloc (Nat.le_refl _) _
  refine (sum_row N 0 2 [l0, l1] _ (by simp [maxLen]) (by subst hN; simp) ?_).mono ?_
  · intro i hi
    rw [cell_new U _ _ N i hN]
    match i, hi with
    | 0, _ => exact ⟨v0, rfl, h0.below hb⟩
    | 1, _ => exact ⟨v1, rfl, h1.below hb⟩
  · rintro e w' ⟨rfl, h⟩
    exact ⟨by simp, below_alloc _ h⟩
end Go.Proofs.YtolddolfpnkndaaGreat
namespace Go.Proofs.YtolddolfpnkndaaGreat
open Go.RowKit
namespace Vt
/-- a frame's bytes, in their parts -/
def ep (f : Fr) : List (List Nat) := [[167], dg 3 (wr (bd f)).length, wr (bd f), dg 5 (Crc.go 0 (dg 3 (wr (bd f)).length ++ wr (bd f)))]
def en (f : Fr) : List Nat := (ep f).flatten
theorem en_len (f : Fr) : (en f).length = (wr (bd f)).length + 9 := by
  unfold en ep; simp [dg_len]; omega
def BodyOk (f : Fr) : Prop := ∀ w, Calls Tryz.prog 48 #[.agg (fv f)] w fun e w' => ∃ u, e = .returned (.tuple #[u, .int .i64 0]) ∧ JB w' w.heap.size u (bd f) ∧ Below w.heap.size w w'
set_option maxRecDepth 100000 in
set_option maxHeartbeats 1000000 in
theorem encF_ok (f : Fr) (w : World) (hw : f.Wf) (h : rf f = 0) (hB : BodyOk f) : Calls Tryz.prog 26 #[.agg (fv f)] w fun e w' => ∃ u, e = .returned (.tuple #[u, .int .i64 0]) ∧ JB w' w.heap.size u (en f) ∧ Below w.heap.size w w' := by
  obtain ⟨hb1, hb2⟩ := bd_len hw h
  have hlen := (wr_len (bd f)).2
  have HEN : Hid (en f = [[167], dg 3 (wr (bd f)).length, wr (bd f), dg 5 (Crc.go 0 (dg 3 (wr (bd f)).length ++ wr (bd f)))].flatten) := rfl
  have HEL := hd (en_len f)
  unfold BodyOk at hB
  have HC := hd hB
  have hcr := Crc.go_lt 0 (dg 3 (wr (bd f)).length ++ wr (bd f))
  clear hB hw h
  rw [HEN.out] at HEL ⊢
  generalize hs : Crc.go 0 (dg 3 (wr (bd f)).length ++ wr (bd f)) = S at *
  have HS := hd hs
  generalize bd f = b at *
  have HP3 : Hid ((wr b).length < 128 ^ 3) := by
    show (wr b).length < 128 ^ 3
    have : (128 : Nat) ^ 3 = 2097152 := by decide
    omega
  have HP5 : Hid (S < 128 ^ 5) := by
    show S < 128 ^ 5
    have : (128 : Nat) ^ 5 = 34359738368 := by decide
    omega
  clear hs HEN
  obtain ⟨k, ⟨rl, rk, rkey, rval⟩, ⟨pl, pk, pa, pn, pkey⟩, ⟨ec, eb, ef, es⟩⟩ := f
  simp only [fv] at *
  go_enter Tryz.func26, Tryz.ntmps26
  go_wp2_with fail
  refine Calls.mono (HC.out _) ?_
  rintro e w1 ⟨u, rfl, hj, hb⟩
  have HB1 := hd (below_alloc1 hb)
  have HJ1 := hd hj
  clear hj hb HC
  go_wp2_with fail
  refine Calls.mono (wrap_is u b w1 HJ1.out.isB (by omega)) ?_
  rintro e w2 ⟨rfl, hj, hb⟩
  have HB2 : Hid (Below w.heap.size w w2) := HB1.out.trans (hb.mono HB1.out.size)
  have HJ2 := hd hj.isB
  clear hj hb HJ1 HB1
  go_wp2_with fail
  refine Calls.mono (digits_ok (wr b).length 3 w2 (by omega) (by omega) (by omega) HP3.out) ?_
  rintro e w3 ⟨rfl, hj, hb⟩
  have HB3 : Hid (Below w.heap.size w w3) := HB2.out.trans (hb.mono HB2.out.size)
  have HJ3 := hd (HJ2.out.below hb)
  have HD3 := hd hj.isB
  clear hj hb HJ2 HB2
  go_wp2_with fail
  refine Calls.mono (sum_two w3 w3.heap.size rfl _ _ _ _ HD3.out HJ3.out) ?_
  rw [HS.out]
  rintro e w4 ⟨rfl, hb⟩
  have HB4 : Hid (Below w.heap.size w w4) := HB3.out.trans (hb.mono HB3.out.size)
  have HJ4 := hd (HJ3.out.below hb)
  have HD4 := hd (HD3.out.below hb)
  clear hb HJ3 HD3 HB3
  go_wp2_with fail
  refine Calls.mono (digits_ok S 5 w4 (by omega) (by omega) (by omega) HP5.out) ?_
  rintro e w5 ⟨rfl, hj, hb⟩
  have HB5 : Hid (Below w.heap.size w w5) := HB4.out.trans (hb.mono HB4.out.size)
  have HJ5 := hd (HJ4.out.below hb)
  have HD5 := hd (HD4.out.below hb)
  have HS5 := hd hj.isB
  clear hj hb HJ4 HD4 HB4
  have HB6 : Hid (Below w.heap.size w (w5.alloc (.cells #[.int .u8 167] 5))) := HB5.out.alloc HB5.out.size _
  have HL6 := hd (lit_isK .u8 256 w5 #[.int .u8 167] 5 [167] 1 rfl rfl (by simp) (by simp [maxLen]))
  have hst : Below w5.heap.size w5 (w5.alloc (.cells #[.int .u8 167] 5)) := (Below.refl _ _).alloc (Nat.le_refl _) _
  have HP := hd (ps_lit (w5.alloc (.cells #[.int .u8 167] 5)) [.slice (some ⟨w5.heap.size, 0, none⟩) 1 1, .slice (some ⟨w2.heap.size, 0, none⟩) 3 3, .slice (some ⟨w1.heap.size, 0, none⟩) (wr b).length (wr b).length, .slice (some ⟨w4.heap.size, 0, none⟩) 5 5] [[167], dg 3 (wr b).length, wr b, dg 5 S] 49 rfl (by
    intro i v hv
    match i, hv with
    | 0, hv => cases hv; exact HL6.out
    | 1, hv => cases hv; exact HD5.out.below hst
    | 2, hv => cases hv; exact HJ5.out.below hst
    | 3, hv => cases hv; exact HS5.out.below hst
    | i + 4, hv => simp at hv))
  have HCC := hd (concat_row (w5.alloc (.cells #[.int .u8 167] 5)).heap.size 0 4 _ _ (by simp) (by simp) HP.out (by rw [HEL.out]; omega) (by rw [HEL.out]; omega))
  rw [World.size_alloc] at HCC
  clear hst HP HL6 HD5 HJ5 HS5 HEL
  go_wp2_with fail
  refine Calls.mono HCC.out ?_
  rintro e w7 ⟨u, rfl, hj5, hb5⟩
  have HJ7 := hd (hj5.base (base' := w.heap.size) (by have := HB5.out.size; rw [World.size_alloc, World.size_alloc]; omega))
  have HB7 : Hid (Below w.heap.size w w7) := HB6.out.trans ((below_alloc1 hb5).mono HB6.out.size)
  clear hj5 hb5 HCC
  go_wp2_with fail
  go_ret2
  exact ⟨u, rfl, HJ7.out, HB7.out⟩
end Vt
end Go.Proofs.YtolddolfpnkndaaGreat
