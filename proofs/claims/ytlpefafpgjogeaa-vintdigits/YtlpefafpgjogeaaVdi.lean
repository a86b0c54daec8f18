/-
  VintDigits: every Digits, every Number is as the document says; numbers and bytes that are handed in stay; lists that came out are each their owner's. Without a condition.
-/
import Derived.Test.YtlpefafpgjogeaaDg0
import Derived.Test.YtlpefafpgjogeaaOw2
namespace Go.Proofs.Ytlpefafpgjogeaa
open Go.ChangeShapes Go.WideShapes Go.ChangeAt Go.RowKit
namespace Vdi
open Vt Ow
theorem jv_of {w : World} {base : Nat} {v : Value} {l : List Nat} (h : JB w base v l) : JV E8 w base v (bs l) := ⟨bs_one l, by rw [bs_len]; exact h.2⟩
theorem jb_of {w : World} {base : Nat} {v : Value} {l : List Nat} (hb : Byt l) (h : JV E8 w base v (bs l)) : JB w base v l := ⟨hb, by have := h.2; rw [bs_len] at this; exact this⟩
/-- the lists that are held, and the document's one -/
structure LI (w : World) (L : List Nat) (cv : Value) (wr : World) (V : Value) (vs : List Value) : Prop where
  list : JV ES wr w.heap.size V vs
  rows : RS wr w.heap.size vs (fun _ => bs L)
  c : JV E8 wr w.heap.size cv (bs L)
  capart : ∀ t b, t < vs.length → (vs.getD t nil).ownBlock = some b → cv.ownBlock ≠ some b
  below : Below w.heap.size w wr
theorem LI.keep {w : World} {L : List Nat} {cv : Value} {wr w' : World} {V : Value} {vs : List Value} (h : LI w L cv wr V vs) (hb : Below wr.heap.size wr w') : LI w L cv w' V vs :=
  ⟨h.list.below hb, ⟨fun i hi => (h.rows.row i hi).below hb, h.rows.apart⟩, h.c.below hb, h.capart, h.below.trans (hb.mono h.below.size)⟩
theorem LI.add {w : World} {L : List Nat} {cv v : Value} {wr w' : World} {V V' : Value} {vs : List Value} {o : Obj} (h : LI w L cv wr V vs) (hv : JV E8 wr w.heap.size v (bs L)) (hc : ∀ b, v.ownBlock = some b → cv.ownBlock ≠ some b) (hn : ∀ t b, t < vs.length → v.ownBlock = some b → (vs.getD t nil).ownBlock ≠ some b)
    (hp : AppPost ES (wr.alloc o) w.heap.size V vs v V' w') : LI w L cv w' V' (vs ++ [v]) := by
  have hal : Below wr.heap.size wr (wr.alloc o) := (Below.refl _ _).alloc (Nat.le_refl _) o
  have ha := h.keep hal
  have hva := hv.below hal
  have k : ∀ {u : Value} {xs : List Value}, JV E8 (wr.alloc o) w.heap.size u xs → JV E8 w' w.heap.size u xs := fun {u xs} hu => hu.grownO hp.grown fun g hg e => hu.ne ha.list (by decide) hg e.symm
  have hgs : ∀ t, (vs ++ [v]).getD t nil = if t = vs.length then v else vs.getD t nil := fun t => getD_snoc rfl
  refine ⟨hp.row, ⟨fun i hi => ?_, fun i j g hi hj hij hg => ?_⟩, k ha.c, fun t b ht hb => ?_, ha.below.grown hp.grown ha.below.size fun q hq => ha.list.blk_ge q hq⟩
  · rw [hgs]
    split
    · exact k hva
    · exact k (ha.rows.row i (by rw [List.length_append] at hi; simp at hi; omega))
  · rw [List.length_append] at hi hj
    simp only [List.length_singleton] at hi hj
    rw [hgs] at hg ⊢
    by_cases h1 : i = vs.length
    · rw [if_pos h1] at hg
      rw [if_neg (by omega)]
      exact hn j g (by omega) hg
    · rw [if_neg h1] at hg
      by_cases h2 : j = vs.length
      · rw [if_pos h2]
        intro q
        exact hn i g (by omega) q hg
      · rw [if_neg h2]
        exact h.rows.apart i j g (by omega) (by omega) hij hg
  · rw [List.length_append] at ht
    simp only [List.length_singleton] at ht
    rw [hgs] at hb
    by_cases h1 : t = vs.length
    · rw [if_pos h1] at hb; exact hc b hb
    · rw [if_neg h1] at hb; exact h.capart t b (by omega) hb
theorem drew_below {B : Nat} {a b : World} (h : Below B a b) {b' : World} {q : Nat} (e : b' = b.drewN q) : Below B a b' := by rw [e]; exact h.trans ⟨rfl, rfl, rfl, Nat.le_refl _, fun _ _ => rfl⟩
theorem two_li {w w6 : World} {L : List Nat} {v1 v2 cv : Value} (h1 : JV E8 w6 w.heap.size v1 (bs L)) (h2 : JV E8 w6 w.heap.size v2 (bs L)) (hc : JV E8 w6 w.heap.size cv (bs L)) (a12 : ∀ b, v1.ownBlock = some b → v2.ownBlock ≠ some b) (a1c : ∀ b, v1.ownBlock = some b → cv.ownBlock ≠ some b) (a2c : ∀ b, v2.ownBlock = some b → cv.ownBlock ≠ some b) (hB : Below w.heap.size w w6) (o1 : v1.oneCell' = true) (o2 : v2.oneCell' = true) :
    LI w L cv (w6.alloc (.cells #[v1, v2] ES)) (.slice (some ⟨w6.heap.size, 0, none⟩) 2 2) [v1, v2] := by
  have hal : Below w6.heap.size w6 (w6.alloc (.cells #[v1, v2] ES)) := (Below.refl _ _).alloc (Nat.le_refl _) _
  have hblk : Blk (w6.alloc (.cells #[v1, v2] ES)) w6.heap.size ES [v1, v2] := Blk.new w6 ES [v1, v2]
  refine ⟨⟨?_, rfl, .inr ⟨w6.heap.size, 2, #[v1, v2], rfl, hB.size, hblk, by simp, by simp [maxLen], rfl, rfl⟩⟩, ⟨fun i hi => ?_, fun i j g hi hj hij hg => ?_⟩, hc.below hal, fun t b ht hb => ?_, hB.alloc hB.size _⟩
  · intro u hu
    simp at hu
    rcases hu with rfl | rfl
    · exact o1
    · exact o2
  · have : i = 0 ∨ i = 1 := by simp at hi; omega
    rcases this with rfl | rfl
    · exact h1.below hal
    · exact h2.below hal
  · have e1 : i = 0 ∨ i = 1 := by simp at hi; omega
    have e2 : j = 0 ∨ j = 1 := by simp at hj; omega
    rcases e1 with rfl | rfl <;> rcases e2 with rfl | rfl
    · omega
    · exact a12 g hg
    · exact fun q => a12 g q hg
    · omega
  · have : t = 0 ∨ t = 1 := by simp at ht; omega
    rcases this with rfl | rfl
    · exact a1c b hb
    · exact a2c b hb
theorem numAll_is (l : List Nat) (c : Int) : ∃ x e : Int, numAll l c = .tuple #[.int .u64 x, .int .i64 e] := by
  unfold numAll
  split
  · exact ⟨0, 20, rfl⟩
  · split
    · exact ⟨0, 21, rfl⟩
    · unfold numAns
      split
      · exact ⟨_, 0, rfl⟩
      · exact ⟨0, 24, rfl⟩
set_option maxRecDepth 100000 in
set_option maxHeartbeats 2000000 in
theorem walkB (n : Nat) (c : Int) (vb : Value) (l : List Nat) (fi : Int) (w : World) (hn : n < 18446744073709551616) (hI : IsB w vb l) (hl : l.length ≤ 140737488351232) :
    Calls Try.prog 4 #[.int .u64 (n : Int), .int .i64 c, vb, .int .i64 fi] w fun e w' => e = .returned (.bool true) ∧ Below w.heap.size w w' := by
  have HI := hd hI
  have HBY : Hid (∀ w, Calls Try.prog 12 #[.int .u64 (n : Int), .int .i64 c] w fun e w' => (∃ a k, e = .returned (.tuple #[.slice a (dgl n c).length k, .int .i64 (dge n c)]) ∧ JB w' w.heap.size (.slice a (dgl n c).length k) (dgl n c)) ∧ Below w.heap.size w w') := fun w => digits_gen n c w hn
  have HRD := hd (fun w => rdigits_gen n c w hn)
  have hll := dgl_len n c
  generalize dgl n c = L at *
  generalize dge n c = er at *
  clear hI
  go_enter Try.func4, Try.ntmps4
  go_wp2_with fail
  refine Calls.mono (HBY.out w) ?_
  rintro e w1 ⟨⟨a1, k1, rfl, hJ1⟩, hB1⟩
  have HJ1 := hd (jv_of hJ1)
  have HB1 := hd hB1
  have HBL := hd hJ1.1
  clear hJ1 hB1
  go_wp2_with fail
  refine Calls.mono (HRD.out w1) ?_
  rintro e w2 ⟨⟨a2, k2, rfl, hJ2⟩, hB2⟩
  have HJ2 := hd (jv_of hJ2)
  have HJ12 := hd (HJ1.out.below hB2)
  have HB2 := hd (HB1.out.trans (hB2.mono HB1.out.size))
  have HA12 : Hid (∀ b, (Value.slice a1 L.length k1).ownBlock = some b → (Value.slice a2 L.length k2).ownBlock ≠ some b) := by
    intro b h1 h2
    have := HJ1.out.blk_lt b h1
    have := HJ2.out.blk_ge b h2
    omega
  clear hJ2 hB2
  go_wp2_with fail
  refine Calls.mono (same_is _ _ L L w2 (jb_of HBL.out HJ12.out).isB (jb_of HBL.out HJ2.out).isB) ?_
  rintro e w3 ⟨rfl, q3, hw3⟩
  rw [decide_eq_true (rfl : L = L)]
  have HK3 : Hid (Below w2.heap.size w2 w3) := drew_below (Below.refl _ _) hw3
  have HJ13 := hd (HJ12.out.below HK3.out)
  have HJ23 := hd (HJ2.out.below HK3.out)
  have HB3 := hd (HB2.out.trans (HK3.out.mono HB2.out.size))
  clear hw3
  go_wp2_with fail
  refine Calls.mono (HBY.out w3) ?_
  rintro e w4 ⟨⟨a3, k3, rfl, hJ3⟩, hB4⟩
  have HJ34 := hd (jv_of hJ3)
  have HJ14 := hd (HJ13.out.below hB4)
  have HJ24 := hd (HJ23.out.below hB4)
  have HB4 := hd (HB3.out.trans (hB4.mono HB3.out.size))
  have HA13 : Hid (∀ b, (Value.slice a1 L.length k1).ownBlock = some b → (Value.slice a3 L.length k3).ownBlock ≠ some b) := by
    intro b h1 h2
    have := HJ13.out.blk_lt b h1
    have := HJ34.out.blk_ge b h2
    omega
  have HA32 : Hid (∀ b, (Value.slice a3 L.length k3).ownBlock = some b → (Value.slice a2 L.length k2).ownBlock ≠ some b) := by
    intro b h1 h2
    have := HJ23.out.blk_lt b h2
    have := HJ34.out.blk_ge b h1
    omega
  clear hJ3 hB4
  go_wp2_with fail
  refine Calls.mono (same_is _ _ L L w4 (jb_of HBL.out HJ34.out).isB (jb_of HBL.out HJ24.out).isB) ?_
  rintro e w5 ⟨rfl, q5, hw5⟩
  rw [decide_eq_true (rfl : L = L)]
  have HK5 : Hid (Below w4.heap.size w4 w5) := drew_below (Below.refl _ _) hw5
  have HJ15 := hd (HJ14.out.below HK5.out)
  have HJ25 := hd (HJ24.out.below HK5.out)
  have HJ35 := hd (HJ34.out.below HK5.out)
  have HB5 := hd (HB4.out.trans (HK5.out.mono HB4.out.size))
  clear hw5
  go_wp2_with fail
  refine Calls.mono (same_is _ _ L L w5 (jb_of HBL.out HJ15.out).isB (jb_of HBL.out HJ25.out).isB) ?_
  rintro e w6 ⟨rfl, q6, hw6⟩
  rw [decide_eq_true (rfl : L = L)]
  have HK6 : Hid (Below w5.heap.size w5 w6) := drew_below (Below.refl _ _) hw6
  have HB6 := hd (HB5.out.trans (HK6.out.mono HB5.out.size))
  have HLI := hd (two_li (w := w) (HJ15.out.below HK6.out) ((HJ35.out.below HK6.out).mono HB3.out.size) ((HJ25.out.below HK6.out).mono HB1.out.size) HA13.out HA12.out HA32.out HB6.out rfl rfl)
  clear hw6
  go_wp2_with fail
  go_loopw [15, 16] (fun V x wr => ∃ (i : Nat) (a : Option Addr) (k : Nat) (vs : List Value), i ≤ 14 ∧ x = .int .i64 (i : Int) ∧ vs.length = 2 + i ∧ V = .slice a (2 + i) k ∧ LI w L (.slice a2 L.length k2) wr V vs) (fun _ x _ => 14 - (intOf x).toNat)
  case atStart => exact ⟨0, _, _, _, by omega, rfl, rfl, rfl, HLI.out⟩
  case round =>
    obtain ⟨i, a, k, vs, hi, rfl, hvl, rfl, hX⟩ := hrel
    obtain ⟨wb, hww⟩ : ∃ wb, wb = wr := ⟨_, rfl⟩
    subst hww
    have HX := hd hX
    have HVL := hd hvl
    clear hX hvl HLI
    by_cases hlt : i < 14
    · have hii : ((i : Nat) : Int) < 14 := by omega
      go_wp2_with fail
      refine Calls.mono (HBY.out wb) ?_
      rintro e w7 ⟨⟨a5, k5, rfl, hJ5⟩, hB7⟩
      have HJ5 := hd (jv_of hJ5)
      have HX7 := hd (HX.out.keep hB7)
      have HB5L : Hid (∀ b, (Value.slice a5 L.length k5).ownBlock = some b → wb.heap.size ≤ b) := fun b hb => (jv_of hJ5).blk_ge b hb
      clear hJ5 hB7
      go_wp2_with fail
      refine Calls.mono (same_is _ _ L L w7 (jb_of HBL.out HJ5.out).isB (jb_of HBL.out HX7.out.c).isB) ?_
      rintro e w8 ⟨rfl, q8, hw8⟩
      rw [decide_eq_true (rfl : L = L)]
      have HK8 : Hid (Below w7.heap.size w7 w8) := drew_below (Below.refl _ _) hw8
      have HX8 := hd (HX7.out.keep HK8.out)
      have HJ8 := hd ((HJ5.out.below HK8.out).mono HX.out.below.size)
      clear hw8
      go_wp2_with (at_builtin; refine wpList_append_keep (E := ES) (S := 39) (z := .slice none 0 0) (by_ := 24) Try.underlying39 info_sl rfl _ rfl _ _ rfl w.heap.size _ vs ⟨w8.heap.size, 0, none⟩ 1 (.slice a5 L.length k5) rfl rfl (HX8.out.list.below ((Below.refl w8.heap.size w8).alloc (Nat.le_refl _) _)) (World.cell?_alloc_new _ _ _ _) rfl (2 + i + 1) (by rw [HVL.out]) (by omega) (by unfold maxLen; omega) (by have := HX8.out.below.size; simp; omega) ?_; intro a6 c6 w9 hP; have HP := hd hP; clear hP)
      have HX9 := hd (HX8.out.add HJ8.out (fun b h1 h2 => by have := HX.out.c.blk_lt b h2; have := HB5L.out b h1; omega) (fun t b ht h1 h2 => by have := (HX.out.rows.row t ht).blk_lt b h2; have := HB5L.out b h1; omega) HP.out)
      exact ⟨⟨i + 1, a6, c6, _, by omega, by go_num, by rw [List.length_append, HVL.out]; rfl, rfl, HX9.out⟩, by simp [intOf]; omega⟩
    · have hii : ¬ ((i : Nat) : Int) < 14 := by omega
      have e14 : i = 14 := by omega
      have hv16 : vs.length = 16 := by rw [HVL.out, e14]
      obtain ⟨gl, hgl⟩ : ∃ gl, a = some ⟨gl, 0, none⟩ := by
        obtain ⟨_, _, ⟨e1, e2⟩ | ⟨g, cap, cur, e1, _⟩⟩ := HX.out.list
        · rw [hv16] at e2; omega
        · injection e1 with e1; exact ⟨g, e1⟩
      have HXL : Hid (JV ES wb w.heap.size (.slice (some ⟨gl, 0, none⟩) vs.length k) vs) := by
        have := HX.out.list
        rw [hgl, ← HVL.out] at this
        exact this
      have HOW := hd (owns_is wb w.heap.size gl k vs (fun _ => bs L) HXL.out HX.out.rows (by omega) (fun _ _ => by rw [bs_len]; omega) HX.out.below.size)
      rw [HVL.out, ← hgl] at HOW
      have HV16 := hd hv16
      clear hlt hi e14 hgl hv16
      go_wp2_with fail
      refine Calls.mono HOW.out ?_
      rintro e w8 ⟨rfl, V2, gs, hIn⟩
      have HST : Hid (Sti w8 wb.heap.size 58 (fun _ => (bs L).length) vs.length) := (by have h1 := hIn; rw [← HVL.out] at h1; exact h1.sti (by have := HV16.out; omega))
      have HC8 : Hid (JV E8 w8 w.heap.size (.slice a2 L.length k2) (bs L)) := HX.out.c.same fun b hb => hIn.kept.2 b (HX.out.c.blk_lt b hb) fun t ht q => HX.out.capart t b ht q hb
      have HB8 := hd (HX.out.below.trans hIn.below)
      clear hIn HOW
      go_wp2_with fail
      have hw8 : w.heap.size ≤ w8.heap.size := HB8.out.size
      refine Calls.mono (Vt.lent_is vb l w8 (HI.out.below HB8.out) hl) ?_
      rintro e w9 ⟨rfl, hJ9, hB9⟩
      have HG9 := hd hJ9.buf
      have HO9 := hd hB9
      have HB9 := hd (HB8.out.trans (hB9.mono hw8))
      have HC9 := hd (HC8.out.below hB9)
      have hg9 : w8.heap.size < w9.heap.size := hJ9.buf.2.2.1
      clear hJ9 hB9
      obtain ⟨nx, ne, hnum⟩ := numAll_is l fi
      have HN1 := hd (number_all (.slice (some ⟨w8.heap.size, 0, none⟩) l.length (l.length + 8)) fi l w9 (lent_isB HG9.out))
      have HN2 := hd (rnumber_all vb fi l w9 (HI.out.below HB9.out))
      rw [hnum] at HN1 HN2
      clear hnum
      go_wp2_with fail
      refine Calls.mono HN1.out ?_
      rintro e w9 ⟨rfl, rfl⟩
      go_wp2_with fail
      refine Calls.mono HN2.out ?_
      rintro e w9 ⟨rfl, rfl⟩
      clear HN1 HN2
      go_wp2_with fail
      refine Calls.mono (HBY.out w9) ?_
      rintro e w10 ⟨⟨a7, k7, rfl, hJ7⟩, hB10⟩
      have HJ10 := hd (jv_of hJ7)
      have HG10 := hd (HG9.out.below hg9 hB10)
      have HC10 := hd (HC9.out.below hB10)
      have HO10 := hd (HO9.out.trans (hB10.mono HO9.out.size))
      have HB10 := hd (HB9.out.trans (hB10.mono HB9.out.size))
      clear hJ7 hB10
      go_wp2_with fail
      refine Calls.mono (Vt.kept_is w8.heap.size (l.length + 8) vb l w10 HG10.out (HI.out.below HB10.out)) ?_
      rintro e w11 ⟨rfl, q11, hw11⟩
      have HK11 : Hid (Below w10.heap.size w10 w11) := drew_below (Below.refl _ _) hw11
      have HJ11 := hd (HJ10.out.below HK11.out)
      have HC11 := hd (HC10.out.below HK11.out)
      have HG11 : Hid (Buf w11 w8.heap.size (l.length + 8) (Vt.mk8 l)) := by
        show Buf w11 w8.heap.size (l.length + 8) (Vt.mk8 l)
        rw [hw11]; exact HG10.out
      have HO11 := hd (drew_below HO10.out hw11)
      have HB11 := hd (drew_below HB10.out hw11)
      clear hw11
      go_wp2_with fail
      refine Calls.mono (same_is _ _ L L w11 (jb_of HBL.out HJ11.out).isB (jb_of HBL.out HC11.out).isB) ?_
      rintro e w12 ⟨rfl, q12, hw12⟩
      rw [decide_eq_true (rfl : L = L)]
      have HG12 : Hid (Buf w12 w8.heap.size (l.length + 8) (Vt.mk8 l)) := by
        show Buf w12 w8.heap.size (l.length + 8) (Vt.mk8 l)
        rw [hw12]; exact HG11.out
      have HO12 := hd (drew_below HO11.out hw12)
      have HB12 := hd (drew_below HB11.out hw12)
      clear hw12
      go_wp2_with fail
      refine Calls.mono (turned_is w8.heap.size (l.length + 8) l.length w8.heap.size (Vt.mk8 l) w12 HG12.out (by rw [mk8_len]; omega) (Nat.le_refl _)) ?_
      rintro e w13 ⟨⟨vt, rfl⟩, ⟨F, hFl, hGF⟩, hBt⟩
      have HO13 := hd (HO12.out.trans hBt)
      have HB13 := hd (HB12.out.trans (hBt.mono hw8))
      have HIF : Hid (IsB w13 (.slice (some ⟨w8.heap.size, 0, none⟩) l.length (l.length + 8)) (F.take l.length)) := (hGF.isB rfl).take l.length (by rw [hFl, mk8_len]; omega)
      clear hGF hBt hFl
      obtain ⟨mx, me, hnum⟩ := numAll_is (F.take l.length) fi
      have HN1 := hd (number_all _ fi _ w13 HIF.out)
      have HN2 := hd (rnumber_all _ fi _ w13 HIF.out)
      rw [hnum] at HN1 HN2
      clear hnum
      go_wp2_with fail
      refine Calls.mono HN1.out ?_
      rintro e w13 ⟨rfl, rfl⟩
      go_wp2_with fail
      refine Calls.mono HN2.out ?_
      rintro e w13 ⟨rfl, rfl⟩
      clear HN1 HN2
      go_wp2_with fail
      refine Calls.mono (still_is w13 wb.heap.size 58 (fun _ => (bs L).length) vs.length (HST.out.below HO13.out) (by have := HV16.out; omega) (fun _ _ => by rw [bs_len]; omega)) ?_
      rintro e w13 ⟨rfl, rfl⟩
      go_wp2_with fail
      refine Calls.mono (works_any _) ?_
      rintro e w14 ⟨rfl, hB14⟩
      have HB14 := hd (HB13.out.trans (hB14.mono HB13.out.size))
      clear hB14
      go_wp2_with fail
      go_ret
      exact ⟨rfl, HB14.out⟩
theorem walk (a0 a1 : Int) (a2 : Option Addr) (len2 cap2 : Nat) (z2 : List Int) (a3 : Int) (w : World) (w0 : (Lit.int .u64 a0).wf = true) (_w1 : (Lit.int .i64 a1).wf = true) (w2 : IsRow .u8 w a2 len2 cap2 z2) (_w3 : (Lit.int .i64 a3).wf = true) (rc2 : cap2 ≤ 140737488351232) (hlc2 : len2 ≤ cap2) :
    Calls Try.prog 4 #[.int .u64 a0, .int .i64 a1, .slice a2 len2 cap2, .int .i64 a3] w fun e w' => e = .returned (.bool true) ∧ Below w.heap.size w w' := by
  have h0 := bounds_u64 w0
  obtain ⟨n, rfl⟩ : ∃ n : Nat, a0 = (n : Int) := ⟨a0.toNat, by omega⟩
  obtain ⟨l, hl, hI⟩ := w2.isB
  exact walkB n a1 _ l a3 w (by omega) hI (by omega)
set_option linter.unusedVariables false
set_option maxRecDepth 100000 in
theorem lifted (os : Os) (started : os.Started) (H : Type) (enc : TypeId × Value → H) :
    ReturnsInHanded {} Try.checked os 4 .any (Rows.vintDigitsSpec.pre6 enc Try.prog Try.f4 Rows.vintDigitsRow.domain false) (Rows.vintDigitsSpec.post enc Try.prog Try.f4 false true false false) := by
  refine returnsInHanded_of_change_sized (C := Try.checked) own started (by kernel_rfl) Try.func4
    (ChangeSpec.witness6 (enc := enc) (C := Try.checked) false ⟨#[], #[.int .u64 0, .int .i64 0, .slice none 0 0, .int .i64 0], []⟩ 8 (by kernel_rfl) (by kernel_rfl) (by kernel_rfl) (by kernel_rfl)) ?_
  intro W base args ds gs before hval0 hW hcnd hsz0 _
  have hsz : (DataW.weightsEach Try.prog (Try.f4.params.toList ++ Rows.vintDigitsSpec.plain.varTypes Try.prog) (ds ++ gs)).all (· ≤ reachBytes) = true := hsz0
  clear hsz0
  have hval : ∀ (j : Nat) t v, Try.f4.params[j]? = some t → args[j]? = some v → Value.okWide Try.prog W .any base t v := hval0
  have hW' := hW
  obtain ⟨p, q, hA0, hV, rfl, hfz, hnd⟩ := hW
  have hA : DataW.TrodAll enc Try.prog W 0 (fun _ => true) true Try.f4.params.toList args.toList ds p := hA0
  rw [Try.params4] at hA hval hsz
  obtain ⟨v0, vs0, d0, ds0, p0, q0, hargs, rfl, rfl, h0, r0⟩ := trodAll_cons hA
  obtain ⟨v1, vs1, d1, ds1, p1, q1, rfl, rfl, rfl, h1, r1⟩ := trodAll_cons r0
  obtain ⟨v2, vs2, d2, ds2, p2, q2, rfl, rfl, rfl, h2, r2⟩ := trodAll_cons r1
  obtain ⟨v3, vs3, d3, ds3, p3, q3, rfl, rfl, rfl, h3, r3⟩ := trodAll_cons r2
  obtain ⟨rfl, rfl, rfl⟩ := trodAll_nil r3
  obtain rfl : args = #[v0, v1, v2, v3] := by cases args; simp_all
  obtain ⟨rfl, rfl⟩ := trodVars_none hV
  obtain ⟨a0, rfl, rfl, rfl, w0⟩ := open_int Try.underlying29 (hval 0 29 v0 rfl rfl) h0
  obtain ⟨a1, rfl, rfl, rfl, w1⟩ := open_int Try.underlying3 (hval 1 3 v1 rfl rfl) h1
  obtain ⟨a2, len2, cap2, rfl⟩ := okWide_slice Try.underlying22 (hval 2 22 v2 rfl rfl)
  have k2 := h2
  have lt2 : ∀ x ∈ p2, x.block < W.heap.size := by obtain ⟨m, hm⟩ := k2; exact DataW.trod_lt m _ _ _ hm
  obtain ⟨z2, w2, rc2, hlc2⟩ : ∃ zs, IsRow .u8 W a2 len2 cap2 zs ∧ cap2 ≤ 140737488351232 ∧ len2 ≤ cap2 := by
    obtain ⟨fuel, hf⟩ := h2
    rcases open_ints Try.underlying22 Try.underlying5 (by kernel_rfl) hf with ⟨hcs, _⟩ | ⟨x, l, c, zs, hcs, _, hl, hm, hz, hx, hcell, hwz⟩
    · simp [Value.cells] at hcs
      obtain ⟨rfl, rfl, rfl⟩ := hcs
      exact ⟨[], .inl ⟨rfl, rfl, rfl, rfl⟩, by omega, by omega⟩
    · simp [Value.cells] at hcs
      obtain ⟨rfl, rfl, rfl⟩ := hcs
      have hz2 : zs.length = cap2 := by simpa using hz
      simp only [Prod.mk.injEq] at hx
      have hs := sized_slice hsz (j := 2) rfl (by rw [hx.1]; rfl) Try.underlying22
      rw [bytes_u8] at hs
      simp only [lits, List.length_map, List.length_take, List.length_drop, reachBytes] at hs
      exact ⟨zs, .inr ⟨_, rfl, hl, hm, hz2, hcell, hwz⟩, by omega, hl⟩
  obtain ⟨a3, rfl, rfl, rfl, w3⟩ := open_int Try.underlying3 (hval 3 3 v3 rfl rfl) h3
  clear hA0 hval0
  refine (walk a0 a1 a2 len2 cap2 z2 a3 W w0 w1 w2 w3 rc2 hlc2).mono fun e W' ⟨he, bel⟩ => ?_
  subst he
  exact ⟨_, rfl, _, _, _, [], _, [], hW', trodAll_mk1 (shut_bool Try.underlying4 _), (trodAll_cons_mk (shut_int Try.underlying29 w0) (trodAll_cons_mk (shut_int Try.underlying3 w1) (trodAll_cons_mk (Below.trod laidOut (by kernel_rfl) (of_decide_eq_true (by kernel_rfl)) k2 bel lt2) (trodAll_cons_mk (shut_int Try.underlying3 w3) trodAll_mk0)))), rfl, bel.frame _, fun h => by cases h⟩

theorem over : Rows.vintDigitsRow.holds Try.pinned (OpenSpec.ofChange Rows.vintDigitsSpec) :=
  OpenClaim.holds_of_wide 4 Try.f4 rfl rfl rfl rfl rfl rfl rfl ⟨rfl, rfl, rfl, rfl, rfl⟩ rfl rfl rfl rfl rfl (by kernel_rfl) Try.func4 (by kernel_rfl)
    (of_decide_eq_true (by kernel_rfl)) (by unfold Func.isWrapper; first | (rw [if_pos (by decide +kernel)]; kernel_rfl) | (rw [if_neg (by decide +kernel)]; exact ⟨rfl, rfl⟩))
    (fun os started H enc _ => lifted os started H enc)

end Vdi

theorem vintDigits_holds : Rows.VintDigitsSaid := Vdi.over
#print axioms vintDigits_holds
end Go.Proofs.Ytlpefafpgjogeaa
