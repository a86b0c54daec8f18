/-
  THE WALKS OF the laws' own lent, kept and turned: bytes that are lent, with marked places behind them.
  THE REFERENCE OF LAYER 4: salvorref4.digits, escaped.
  A BODY TAKEN APART, PLAINLY, as the reference does it: what is read is what was written, and nothing else.
-/
import Derived.Test.YtnjhbidialngmaaXhat
import Derived.Test.YtnjhbidialngmaaXhar
import Derived.Test.YtnjhbidialngmaaXhad
import Derived.Test.YtnjhbidialngmaaXhab
import Derived.Test.YtnjhbidialngmaaXhas
namespace Go.Proofs.Ytnjhbidialngmaa
open Go.RowKit
namespace Vt
/-- the bytes with the eight marked places behind them -/
def mk8 (l : List Nat) : List Nat := l ++ List.replicate 8 238
end Vt
end Go.Proofs.Ytnjhbidialngmaa
namespace Go.Proofs.Ytnjhbidialngmaa
open Go.RowKit
namespace Vt
set_option maxRecDepth 100000 in
set_option maxHeartbeats 400000 in
theorem r4_digits (n c : Nat) (w : World) (h1 : 1 ≤ c) (h9 : c ≤ 9) (hn : n < 9223372036854775808) :
    Calls Try.prog 32 #[.int .i64 (n : Int), .int .i64 (c : Int)] w fun e w' => (∃ k, e = .returned (.slice (some ⟨w.heap.size, 0, none⟩) c k) ∧ JB w' w.heap.size (.slice (some ⟨w.heap.size, 0, none⟩) c k) (dg c n)) ∧ Below w.heap.size w w' := by
  obtain ⟨i0, hi, hz0, hz1, hz2⟩ := info_parts info_u8
  go_enter Try.func32, Try.ntmps32
  go_wp2_with (at_make; refine wpList_make_full _ rfl _ _ 36 rfl w.heap.size 5 i0 (.int .u8 0) 1 Try.underlying36 hi hz0 hz1 .i64 .i64 (c : Int) (c : Int) c rfl rfl rfl rfl (by rw [hz2]; omega) (by unfold maxLen; omega) (Nat.le_refl _) ?_; intro w1 hown hgrow)
  have HB1 : Hid (Below w.heap.size w w1) := (Below.refl _ _).grown hgrow (Nat.le_refl _) (fun k hk => by cases hk)
  have HO1 : Hid (JB w1 w.heap.size (.slice (some ⟨w.heap.size, 0, none⟩) c c) (List.replicate c 0)) := by
    refine ⟨by intro x hx; have := List.eq_of_mem_replicate hx; omega, ?_⟩
    rw [made8] at hown; rw [List.length_replicate]; exact hown
  clear hown hgrow hi hz0 hz1 hz2
  go_loopw [0, 6] (fun y i wr => ∃ j : Nat, j ≤ c ∧ i = .int .i64 ((c : Int) - 1 - (j : Int)) ∧ y = .int .i64 ((n / 128 ^ j : Nat) : Int) ∧ JB wr w.heap.size (.slice (some ⟨w.heap.size, 0, none⟩) c c) (List.replicate (c - j) 0 ++ dg j n) ∧ Below w.heap.size w wr) (fun _ i _ => (intOf i + 1).toNat)
  case atStart => exact ⟨0, by omega, by simp, by simp, by simpa [dg] using HO1.out, HB1.out⟩
  case round =>
    obtain ⟨j, hj, rfl, rfl, hO, hB⟩ := hrel
    have HO := hd hO
    have HB := hd hB
    clear hO hB HO1 HB1
    by_cases hlt : j < c
    · obtain ⟨p, hp⟩ : ∃ p : Nat, p = c - 1 - j := ⟨_, rfl⟩
      have hpi : (c : Int) - 1 - (j : Int) = (p : Int) := by omega
      have hpc : p < c := by omega
      have hll : c = (List.replicate (c - j) 0 ++ dg j n).length := by rw [List.length_append, List.length_replicate, dg_len]; omega
      have hcell := HO.out.buf.cell (j := p) (by omega)
      have hfro := HO.out.buf.2.2.2.2.2 p (by omega)
      have HO2 := hd (HO.out.set (j := p) (y := n / 128 ^ j % 128) hll (by omega))
      have HS := hd (dg_step c j n hlt)
      rw [← hp] at HS
      rw [HS.out] at HO2
      have hqe : n / 128 ^ (j + 1) = n / 128 ^ j / 128 := by rw [Nat.pow_succ, Nat.div_div_eq_div_mul]
      have HQE := hd hqe
      generalize hq : n / 128 ^ j = q at *
      have hq2 : q < 9223372036854775808 := by have := Nat.div_le_self n (128 ^ j); omega
      rw [hpi]
      have HLT := hd hlt
      have HPI := hd hpi
      clear hlt hp hpi hq hj hqe hll
      go_wp2_with fail
      refine ⟨⟨j + 1, HLT.out, ?_, by rw [HQE.out]; go_num, HO2.out, HB.out.setCell (Nat.le_refl _) _⟩, by simp [intOf]⟩
      have := HPI.out
      congr 1
      omega
    · have hjc : j = c := by omega
      subst hjc
      have hpi : (j : Int) - 1 - (j : Int) = -1 := by omega
      rw [hpi]
      rw [Nat.sub_self] at HO
      go_wp2_with fail
      go_ret
      exact ⟨⟨_, rfl, HO.out⟩, HB.out⟩
set_option maxRecDepth 100000 in
set_option maxHeartbeats 1000000 in
theorem r4_escaped (v : Value) (l : List Nat) (w : World) (hI : IsB w v l) (hm : l.length ≤ 60000000000000) : Calls Try.prog 31 #[v] w fun e w' => (∃ a k, e = .returned (.slice a (wr l).length k) ∧ JB w' w.heap.size (.slice a (wr l).length k) (wr l)) ∧ Below w.heap.size w w' := by
  have HI := hd hI
  obtain ⟨a, c, rfl⟩ := hI.shape
  clear hI
  go_enter Try.func31, Try.ntmps31
  go_wp2_with fail
  go_loopw [3, 4] (fun v i wk => ∃ (k : Nat) (a1 : Option Addr) (c1 : Nat), k ≤ l.length ∧ i = .int .i64 (k : Int) ∧ v = .slice a1 (Vt.wr (l.take k)).length c1 ∧ JB wk w.heap.size v (Vt.wr (l.take k)) ∧ Below w.heap.size w wk) (fun _ i _ => l.length - (intOf i).toNat)
  case atStart => exact ⟨0, none, 0, by omega, rfl, rfl, ⟨byt_nil, own_nil _ _⟩, Below.refl _ _⟩
  case round =>
    obtain ⟨k, a1, c1, hk, rfl, rfl, hJ, hB⟩ := hrel
    obtain ⟨wk, hww⟩ : ∃ wk, wk = wr := ⟨_, rfl⟩
    subst hww
    have HJ := hd hJ
    have HB := hd hB
    clear hJ hB
    by_cases hlt : k < l.length
    · have hki : ((k : Nat) : Int) < (l.length : Int) := by omega
      have hIr := HI.out.below HB.out
      have HSU := hd (wr_succ hlt)
      have HLT : Hid (k + 1 ≤ l.length) := hlt
      have hx := getD_lt HI.out.1 k
      have hwl := (wr_len (l.take k)).2
      rw [List.length_take] at hwl
      obtain ⟨_, _, ⟨e0, _⟩ | ⟨bb, oo, cc, e, hlc, hcm, hbb, hrow⟩⟩ := hIr
      · rw [e0] at hlt; simp at hlt
      · have hcell := hrow k hlt
        injection e with e1' e2 e3
        subst e1' e3
        have HWS := hd HB.out.size
        have hsz := HB.out.size
        clear hrow hk e2
        generalize l.getD k 0 = x at *
        by_cases h1 : x = 167
        · subst h1
          have HE : Hid (Vt.wr (l.take (k + 1)) = Vt.wr (l.take k) ++ [166, 1]) := HSU.out
          go_wp2_with (at_builtin; refine wpList_append_jb _ rfl _ _ rfl w.heap.size _ _ (Vt.wr (l.take k)) [166, 1] rfl rfl (HJ.out.alloc _) (lit_isK .u8 256 _ _ 5 [166, 1] 2 rfl (by simp) (by intro y hy; simp at hy; omega) (by simp [maxLen])) (Vt.wr (l.take (k + 1))).length (by rw [HE.out, List.length_append]) (Vt.wr (l.take (k + 1))) HE.out.symm (by rw [HE.out, List.length_append]; simp; omega) (by rw [World.size_alloc]; omega) ?_; intro a2 cap2 w2 hJ2 hg2 hc2)
          have HJ2 := hd hJ2
          have HB2 := hd ((HJ.out.alloc _).grown (HB.out.alloc hsz _) (Nat.le_refl _) (by rw [World.size_alloc]; omega) hg2)
          clear hJ2 hg2
          exact ⟨⟨k + 1, a2, cap2, HLT.out, by go_num, rfl, HJ2.out, HB2.out⟩, by simp [intOf]; omega⟩
        · by_cases h2 : x = 166
          · subst h2
            have HE : Hid (Vt.wr (l.take (k + 1)) = Vt.wr (l.take k) ++ [166, 0]) := HSU.out
            go_wp2_with (at_builtin; refine wpList_append_jb _ rfl _ _ rfl w.heap.size _ _ (Vt.wr (l.take k)) [166, 0] rfl rfl (HJ.out.alloc _) (lit_isK .u8 256 _ _ 5 [166, 0] 2 rfl (by simp) (by intro y hy; simp at hy; omega) (by simp [maxLen])) (Vt.wr (l.take (k + 1))).length (by rw [HE.out, List.length_append]; try rfl) (Vt.wr (l.take (k + 1))) HE.out.symm (by rw [HE.out, List.length_append]; simp; omega) (by rw [World.size_alloc]; omega) ?_; intro a2 cap2 w2 hJ2 hg2 hc2)
            have HJ2 := hd hJ2
            have HB2 := hd ((HJ.out.alloc _).grown (HB.out.alloc hsz _) (Nat.le_refl _) (by rw [World.size_alloc]; omega) hg2)
            clear hJ2 hg2
            exact ⟨⟨k + 1, a2, cap2, HLT.out, by go_num, rfl, HJ2.out, HB2.out⟩, by simp [intOf]; omega⟩
          · have e1 : ((x : Int) == 167) = false := by simp; omega
            have e2 : ((x : Int) == 166) = false := by simp; omega
            have HE : Hid (Vt.wr (l.take (k + 1)) = Vt.wr (l.take k) ++ [x]) := by have := HSU.out; rw [e1_any h1 h2] at this; exact this
            go_wp2_with (at_builtin; refine wpList_append_jb _ rfl _ _ rfl w.heap.size _ _ (Vt.wr (l.take k)) [x] rfl rfl (HJ.out.alloc _) (lit_isK .u8 256 _ _ 5 [x] 1 rfl (by simp) (by intro y hy; simp at hy; omega) (by simp [maxLen])) (Vt.wr (l.take (k + 1))).length (by rw [HE.out, List.length_append]; try rfl) (Vt.wr (l.take (k + 1))) HE.out.symm (by rw [HE.out, List.length_append]; simp; omega) (by rw [World.size_alloc]; omega) ?_; intro a2 cap2 w2 hJ2 hg2 hc2)
            have HJ2 := hd hJ2
            have HB2 := hd ((HJ.out.alloc _).grown (HB.out.alloc hsz _) (Nat.le_refl _) (by rw [World.size_alloc]; omega) hg2)
            clear hJ2 hg2
            exact ⟨⟨k + 1, a2, cap2, HLT.out, by go_num, rfl, HJ2.out, HB2.out⟩, by simp [intOf]; omega⟩
    · obtain rfl : k = l.length := by omega
      have HE : Hid (Vt.wr (l.take l.length) = Vt.wr l) := by show _ = _; rw [List.take_length]
      rw [HE.out] at HJ
      rw [HE.out]
      go_wp2
      go_ret
      exact ⟨⟨_, _, rfl, HJ.out⟩, HB.out⟩
end Vt
end Go.Proofs.Ytnjhbidialngmaa
namespace Go.Proofs.Ytnjhbidialngmaa
namespace Vt
/-- a body's frame: it may be, and is written so -/
def Bdy (l : List Nat) (f : Fr) : Prop := rf f = 0 ∧ f.Wf ∧ bd f = l
theorem Bdy.kind {l : List Nat} {f : Fr} (h : Bdy l f) : (f.kind = 1 ∧ l = 1 :: (vrt f.r.lsn ++ (vrt f.r.key.size ++ (bl f.r.key ++ bl f.r.val))) ∧ f = ⟨1, ⟨f.r.lsn, 1, f.r.key, f.r.val⟩, zp, ze⟩ ∧ f.r.lsn < 18446744073709551616 ∧ f.r.key.size ≤ 64) ∨
    (f.kind = 2 ∧ l = 2 :: (vrt f.r.lsn ++ bl f.r.key) ∧ f = ⟨2, ⟨f.r.lsn, 2, f.r.key, ByteArray.empty⟩, zp, ze⟩ ∧ f.r.lsn < 18446744073709551616) ∨
    (f.kind = 3 ∧ l = 3 :: (vrt f.p.lsn ++ (f.p.kind.toNat :: (vrt f.p.at_.toNat ++ (vrt f.p.len.toNat ++ bl f.p.key)))) ∧ f = ⟨3, zr, f.p, ze⟩ ∧ f.p.lsn < 18446744073709551616 ∧ (f.p.kind = 1 ∨ f.p.kind = 2) ∧ (0 ≤ f.p.at_ ∧ f.p.at_ ≤ 4194304) ∧ (0 ≤ f.p.len ∧ f.p.len ≤ 4194304)) ∨
    (f.kind = 4 ∧ l = 4 :: (vrt f.e.count.toNat ++ (vrt f.e.bytes.toNat ++ (vrt f.e.frames.toNat ++ vrt f.e.sum))) ∧ f = ⟨4, zr, zp, f.e⟩ ∧ f.e.sum < 4294967296 ∧ (0 ≤ f.e.count ∧ f.e.count ≤ 4194304) ∧ (0 ≤ f.e.bytes ∧ f.e.bytes ≤ 4194304) ∧ (0 ≤ f.e.frames ∧ f.e.frames ≤ 4194304)) := by
  obtain ⟨h1, ⟨w1, w2, w3⟩, h3⟩ := h
  have hb : bd f = (bp f).flatten := rfl
  rw [hb] at h3
  unfold rf at h1
  by_cases c12 : f.kind = 1 ∨ f.kind = 2
  · rw [if_pos c12] at h1
    obtain ⟨e1, e2, e3, e4, e5⟩ := rfR_ok h1
    obtain ⟨k, ⟨lsn, rk, key, val⟩, p, e⟩ := f
    unfold ofR at e5
    injection e5 with q1 q2 q3 q4
    simp only at *
    subst q3 q4
    rcases c12 with rfl | rfl
    · refine .inl ⟨rfl, ?_, by rw [e1], w1, e3.2⟩
      rw [← h3]
      unfold bp vs
      simp
    · refine .inr (.inl ⟨rfl, ?_, ?_, w1⟩)
      · rw [← h3]
        unfold bp vs
        simp
      · rw [if_pos e1] at e4
        have : val = ByteArray.empty := by
          have h0 : val.size = 0 := by omega
          have hl : bl val = [] := List.length_eq_zero_iff.1 (by rw [bl_len, h0])
          rw [← str_bl val, hl]; rfl
        rw [this, e1]
  · rw [if_neg c12] at h1
    by_cases c3 : f.kind = 3
    · rw [if_pos c3] at h1
      obtain ⟨e1, e2, e3, e4, e5, e6, e7⟩ := rfP_ok h1
      refine .inr (.inr (.inl ⟨c3, ?_, e7, w2, e1, e4, e5⟩))
      rw [← h3]
      unfold bp vs
      rw [if_neg (by omega), if_neg (by omega), if_pos c3]
      simp
    · rw [if_neg c3] at h1
      by_cases c4 : f.kind = 4
      · rw [if_pos c4] at h1
        obtain ⟨e1, e2, e3, e4⟩ := rfE_ok h1
        refine .inr (.inr (.inr ⟨c4, ?_, e4, w3, e1, e2, e3⟩))
        rw [← h3]
        unfold bp vs
        rw [if_neg (by omega), if_neg (by omega), if_neg (by omega)]
        simp
      · rw [if_neg c4] at h1
        cases h1
/-- what is read of a number: it was written so -/
theorem dec_split {s : List Nat} (hb : Byt s) (h : (dec s).2.2 = 0) : s = vrt (dec s).1 ++ s.drop (dec s).2.1 ∧ (dec s).1 < 18446744073709551616 ∧ (dec s).2.1 ≤ s.length := by
  obtain ⟨h1, _, _, h4, h5, _⟩ := dec_ok (l := s) (n := (dec s).1) (k := (dec s).2.1) hb (by rw [← h])
  exact ⟨by rw [h1, List.take_append_drop], h5, h4⟩
theorem dec_front {n : Nat} (h : n < 18446744073709551616) {s r : List Nat} (hs : s = vrt n ++ r) : (dec s).2.2 = 0 ∧ (dec s).1 = n ∧ s.drop (dec s).2.1 = r := by
  rw [hs, dec_vrt h]
  exact ⟨rfl, rfl, by simp⟩
/-- a Put's body -/
theorem put_bdy {s : List Nat} {n1 n2 : Nat} {t : List Nat} (hb : Byt t) (h1 : s = vrt n1 ++ (vrt n2 ++ t)) (hn : n2 ≤ t.length) (hl : n1 < 18446744073709551616) (hr : rf ⟨1, ⟨n1, 1, str (t.take n2), str (t.drop n2)⟩, zp, ze⟩ = 0) : Bdy (1 :: s) ⟨1, ⟨n1, 1, str (t.take n2), str (t.drop n2)⟩, zp, ze⟩ := by
  refine ⟨hr, ⟨hl, by show (0 : Nat) < _; decide, by show (0 : Nat) < _; decide⟩, ?_⟩
  unfold bd bp vs
  rw [if_pos rfl]
  have e : (str (t.take n2)).size = n2 := by rw [str_size (byt_take hb n2), List.length_take]; omega
  simp only [List.map_cons, List.map_nil, List.flatten_cons, List.flatten_nil, List.append_nil, e, bl_str (byt_take hb n2), bl_str (byt_drop hb n2), List.take_append_drop]
  rw [h1]
  simp
theorem del_bdy {s : List Nat} {n1 : Nat} {t : List Nat} (hb : Byt t) (h1 : s = vrt n1 ++ t) (hl : n1 < 18446744073709551616) (hr : rf ⟨2, ⟨n1, 2, str t, ByteArray.empty⟩, zp, ze⟩ = 0) : Bdy (2 :: s) ⟨2, ⟨n1, 2, str t, ByteArray.empty⟩, zp, ze⟩ := by
  refine ⟨hr, ⟨hl, by show (0 : Nat) < _; decide, by show (0 : Nat) < _; decide⟩, ?_⟩
  unfold bd bp vs
  rw [if_neg (by show ¬ (2 : Int) = 1; decide), if_pos rfl]
  simp only [List.map_cons, List.map_nil, List.flatten_cons, List.flatten_nil, List.append_nil, bl_str hb]
  rw [h1]
  simp
theorem hint_bdy {s : List Nat} {n1 k a n : Nat} {t : List Nat} (hb : Byt t) (h1 : s = vrt n1 ++ (k :: (vrt a ++ (vrt n ++ t)))) (hl : n1 < 18446744073709551616) (hr : rf (hfrQ ⟨n1, (k : Int), (a : Int), (n : Int), str t⟩) = 0) : Bdy (3 :: s) (hfrQ ⟨n1, (k : Int), (a : Int), (n : Int), str t⟩) := by
  refine ⟨hr, ⟨by show (0 : Nat) < _; decide, hl, by show (0 : Nat) < _; decide⟩, ?_⟩
  unfold bd bp vs hfrQ
  rw [if_neg (by show ¬ (3 : Int) = 1; decide), if_neg (by show ¬ (3 : Int) = 2; decide), if_pos rfl]
  simp only [List.map_cons, List.map_nil, List.flatten_cons, List.flatten_nil, List.append_nil, bl_str hb, Int.toNat_natCast]
  rw [h1]
  simp
theorem foot_bdy {s : List Nat} {a b c d : Nat} (h1 : s = vrt a ++ (vrt b ++ (vrt c ++ vrt d))) (hl : d < 4294967296) (hr : rf (ffrQ ⟨(a : Int), (b : Int), (c : Int), d⟩) = 0) : Bdy (4 :: s) (ffrQ ⟨(a : Int), (b : Int), (c : Int), d⟩) := by
  refine ⟨hr, ⟨by show (0 : Nat) < _; decide, by show (0 : Nat) < _; decide, hl⟩, ?_⟩
  unfold bd bp vs ffrQ
  rw [if_neg (by show ¬ (4 : Int) = 1; decide), if_neg (by show ¬ (4 : Int) = 2; decide), if_neg (by show ¬ (4 : Int) = 3; decide)]
  simp only [List.map_cons, List.map_nil, List.flatten_cons, List.flatten_nil, List.append_nil, Int.toNat_natCast]
  rw [h1]
  rfl
/-- and so the program's own opening says -/
theorem opF_bdy {l : List Nat} (hb : Byt l) (h0 : (badB 0 l).1 = 0) (f : Fr) : opF l = some f ↔ Bdy (plain l) f := by
  constructor
  · intro h
    have hw := only h0
    obtain ⟨h1, h2, h3⟩ := opF_wr (l := plain l) (plain_byt hb) (f := f) (by rw [hw]; exact h)
    exact ⟨h1, h2, h3⟩
  · intro h
    have := prs_bd h.2.1 h.1
    rw [h.2.2] at this
    have e := opF_yes (l := l) h0 (by rw [this]) (by rw [this]; exact h.1)
    rw [e, this]
end Vt
end Go.Proofs.Ytnjhbidialngmaa
