/-
  A BODY TAKEN APART, PLAINLY, as the reference does it: what is read is what was written, and nothing else.
-/
import Derived.Test.YtifjjoobbegpoaaMkae
import Derived.Test.YtifjjoobbegpoaaMkbj
namespace Go.Proofs.Ytifjjoobbegpoaa
namespace Vt
/-- a body's frame: it may be, and is written so -/
def Bdy (l : List Nat) (f : Fr) : Prop := rf f = 0 ∧ f.Wf ∧ bd f = l
theorem Bdy.uniq {l : List Nat} {f g : Fr} (h : Bdy l f) (k : Bdy l g) : f = g := by
  have h1 := prs_bd h.2.1 h.1
  have h2 := prs_bd k.2.1 k.1
  rw [h.2.2] at h1
  rw [k.2.2, h1] at h2
  exact congrArg Prod.fst h2
theorem Bdy.kind {l : List Nat} {f : Fr} (h : Bdy l f) : (f.kind = 1 ∧ l = 1 :: (vrt f.r.lsn ++ (vrt f.r.key.size ++ (bl f.r.key ++ bl f.r.val))) ∧ f = ⟨1, ⟨f.r.lsn, 1, f.r.key, f.r.val⟩, zp, ze⟩ ∧ f.r.lsn < 18446744073709551616 ∧ f.r.key.size ≤ 64) ∨
    (f.kind = 2 ∧ l = 2 :: (vrt f.r.lsn ++ bl f.r.key) ∧ f = ⟨2, ⟨f.r.lsn, 2, f.r.key, ByteArray.empty⟩, zp, ze⟩ ∧ f.r.lsn < 18446744073709551616) ∨
    (f.kind = 3 ∧ l = 3 :: (vrt f.p.lsn ++ (f.p.kind.toNat :: (vrt f.p.at_.toNat ++ (vrt f.p.len.toNat ++ bl f.p.key)))) ∧ f = ⟨3, zr, f.p, ze⟩ ∧ f.p.lsn < 18446744073709551616 ∧ (f.p.kind = 1 ∨ f.p.kind = 2) ∧ (0 ≤ f.p.at_ ∧ f.p.at_ ≤ 4194304) ∧ (0 ≤ f.p.len ∧ f.p.len ≤ 4194304)) ∨
    (f.kind = 4 ∧ l = 4 :: (vrt f.e.count.toNat ++ (vrt f.e.bytes.toNat ++ (vrt f.e.frames.toNat ++ vrt f.e.sum))) ∧ f = ⟨4, zr, zp, f.e⟩ ∧ f.e.sum < 4294967296 ∧ (0 ≤ f.e.count ∧ f.e.count ≤ 4194304) ∧ (0 ≤ f.e.bytes ∧ f.e.bytes ≤ 4194304) ∧ (0 ≤ f.e.frames ∧ f.e.frames ≤ 4194304)) := by
  obtain ⟨h1, ⟨w1, w2, w3⟩, h3⟩ := h
  have hb : bd f = (bp f).flatten := rfl
  rw [hb] at h3
  unfold rf at h1
  by_cases c12 : f.kind = 1 ∨ f.kind = 2
  · rw [if_pos c12] at h1
    obtain ⟨e1, e2, e3, e4, e5⟩ := rfR_ok h1
    obtain ⟨k, ⟨lsn, rk, key, val⟩, p, e⟩ := f
    unfold ofR at e5
    injection e5 with q1 q2 q3 q4
    simp only at *
    subst q3 q4
    rcases c12 with rfl | rfl
    · refine .inl ⟨rfl, ?_, by rw [e1], w1, e3.2⟩
      rw [← h3]
      unfold bp vs
      simp
    · refine .inr (.inl ⟨rfl, ?_, ?_, w1⟩)
      · rw [← h3]
        unfold bp vs
        simp
      · rw [if_pos e1] at e4
        have : val = ByteArray.empty := by
          have h0 : val.size = 0 := by omega
          have hl : bl val = [] := List.length_eq_zero_iff.1 (by rw [bl_len, h0])
          rw [← str_bl val, hl]; rfl
        rw [this, e1]
  · rw [if_neg c12] at h1
    by_cases c3 : f.kind = 3
    · rw [if_pos c3] at h1
      obtain ⟨e1, e2, e3, e4, e5, e6, e7⟩ := rfP_ok h1
      refine .inr (.inr (.inl ⟨c3, ?_, e7, w2, e1, e4, e5⟩))
      rw [← h3]
      unfold bp vs
      rw [if_neg (by omega), if_neg (by omega), if_pos c3]
      simp
    · rw [if_neg c3] at h1
      by_cases c4 : f.kind = 4
      · rw [if_pos c4] at h1
        obtain ⟨e1, e2, e3, e4⟩ := rfE_ok h1
        refine .inr (.inr (.inr ⟨c4, ?_, e4, w3, e1, e2, e3⟩))
        rw [← h3]
        unfold bp vs
        rw [if_neg (by omega), if_neg (by omega), if_neg (by omega)]
        simp
      · rw [if_neg c4] at h1
        cases h1
/-- what is read of a number: it was written so -/
theorem dec_split {s : List Nat} (hb : Byt s) (h : (dec s).2.2 = 0) : s = vrt (dec s).1 ++ s.drop (dec s).2.1 ∧ (dec s).1 < 18446744073709551616 ∧ (dec s).2.1 ≤ s.length := by
  obtain ⟨h1, _, _, h4, h5, _⟩ := dec_ok (l := s) (n := (dec s).1) (k := (dec s).2.1) hb (by rw [← h])
  exact ⟨by rw [h1, List.take_append_drop], h5, h4⟩
theorem dec_front {n : Nat} (h : n < 18446744073709551616) {s r : List Nat} (hs : s = vrt n ++ r) : (dec s).2.2 = 0 ∧ (dec s).1 = n ∧ s.drop (dec s).2.1 = r := by
  rw [hs, dec_vrt h]
  exact ⟨rfl, rfl, by simp⟩
/-- a Put's body -/
theorem put_bdy {s : List Nat} {n1 n2 : Nat} {t : List Nat} (hb : Byt t) (h1 : s = vrt n1 ++ (vrt n2 ++ t)) (hn : n2 ≤ t.length) (hl : n1 < 18446744073709551616) (hr : rf ⟨1, ⟨n1, 1, str (t.take n2), str (t.drop n2)⟩, zp, ze⟩ = 0) : Bdy (1 :: s) ⟨1, ⟨n1, 1, str (t.take n2), str (t.drop n2)⟩, zp, ze⟩ := by
  refine ⟨hr, ⟨hl, by show (0 : Nat) < _; decide, by show (0 : Nat) < _; decide⟩, ?_⟩
  unfold bd bp vs
  rw [if_pos rfl]
  have e : (str (t.take n2)).size = n2 := by rw [str_size (byt_take hb n2), List.length_take]; omega
  simp only [List.map_cons, List.map_nil, List.flatten_cons, List.flatten_nil, List.append_nil, e, bl_str (byt_take hb n2), bl_str (byt_drop hb n2), List.take_append_drop]
  rw [h1]
  simp
theorem del_bdy {s : List Nat} {n1 : Nat} {t : List Nat} (hb : Byt t) (h1 : s = vrt n1 ++ t) (hl : n1 < 18446744073709551616) (hr : rf ⟨2, ⟨n1, 2, str t, ByteArray.empty⟩, zp, ze⟩ = 0) : Bdy (2 :: s) ⟨2, ⟨n1, 2, str t, ByteArray.empty⟩, zp, ze⟩ := by
  refine ⟨hr, ⟨hl, by show (0 : Nat) < _; decide, by show (0 : Nat) < _; decide⟩, ?_⟩
  unfold bd bp vs
  rw [if_neg (by show ¬ (2 : Int) = 1; decide), if_pos rfl]
  simp only [List.map_cons, List.map_nil, List.flatten_cons, List.flatten_nil, List.append_nil, bl_str hb]
  rw [h1]
  simp
theorem hint_bdy {s : List Nat} {n1 k a n : Nat} {t : List Nat} (hb : Byt t) (h1 : s = vrt n1 ++ (k :: (vrt a ++ (vrt n ++ t)))) (hl : n1 < 18446744073709551616) (hr : rf (hfrQ ⟨n1, (k : Int), (a : Int), (n : Int), str t⟩) = 0) : Bdy (3 :: s) (hfrQ ⟨n1, (k : Int), (a : Int), (n : Int), str t⟩) := by
  refine ⟨hr, ⟨by show (0 : Nat) < _; decide, hl, by show (0 : Nat) < _; decide⟩, ?_⟩
  unfold bd bp vs hfrQ
  rw [if_neg (by show ¬ (3 : Int) = 1; decide), if_neg (by show ¬ (3 : Int) = 2; decide), if_pos rfl]
  simp only [List.map_cons, List.map_nil, List.flatten_cons, List.flatten_nil, List.append_nil, bl_str hb, Int.toNat_natCast]
  rw [h1]
  simp
theorem foot_bdy {s : List Nat} {a b c d : Nat} (h1 : s = vrt a ++ (vrt b ++ (vrt c ++ vrt d))) (hl : d < 4294967296) (hr : rf (ffrQ ⟨(a : Int), (b : Int), (c : Int), d⟩) = 0) : Bdy (4 :: s) (ffrQ ⟨(a : Int), (b : Int), (c : Int), d⟩) := by
  refine ⟨hr, ⟨by show (0 : Nat) < _; decide, by show (0 : Nat) < _; decide, hl⟩, ?_⟩
  unfold bd bp vs ffrQ
  rw [if_neg (by show ¬ (4 : Int) = 1; decide), if_neg (by show ¬ (4 : Int) = 2; decide), if_neg (by show ¬ (4 : Int) = 3; decide)]
  simp only [List.map_cons, List.map_nil, List.flatten_cons, List.flatten_nil, List.append_nil, Int.toNat_natCast]
  rw [h1]
  rfl
/-- and so the program's own opening says -/
theorem opF_bdy {l : List Nat} (hb : Byt l) (h0 : (badB 0 l).1 = 0) (f : Fr) : opF l = some f ↔ Bdy (plain l) f := by
  constructor
  · intro h
    have hw := only h0
    obtain ⟨h1, h2, h3⟩ := opF_wr (l := plain l) (plain_byt hb) (f := f) (by rw [hw]; exact h)
    exact ⟨h1, h2, h3⟩
  · intro h
    have := prs_bd h.2.1 h.1
    rw [h.2.2] at this
    have e := opF_yes (l := l) h0 (by rw [this]) (by rw [this]; exact h.1)
    rw [e, this]
end Vt
end Go.Proofs.Ytifjjoobbegpoaa
