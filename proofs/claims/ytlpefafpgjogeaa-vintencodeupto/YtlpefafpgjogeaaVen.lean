/-
  VintEncode: every Encode, every Size is as the document says; numbers that are handed in stay; lists that came out are each their owner's. Where the arguments hold together at most 1048576 numbers.
-/
import Derived.Test.YtlpefafpgjogeaaEn0
namespace Go.Proofs.Ytlpefafpgjogeaa
open Go.ChangeShapes Go.WideShapes Go.ChangeAt Go.RowKit
namespace Ven
open Vt Ow En
theorem jv_of {w : World} {base : Nat} {v : Value} {l : List Nat} (h : JB w base v l) : JV E8 w base v (bs l) := ⟨bs_one l, by rw [bs_len]; exact h.2⟩
theorem jb_of {w : World} {base : Nat} {v : Value} {l : List Nat} (hb : Byt l) (h : JV E8 w base v (bs l)) : JB w base v l := ⟨hb, by have := h.2; rw [bs_len] at this; exact this⟩
theorem drew_below {B : Nat} {a b : World} (h : Below B a b) {b' : World} {q : Nat} (e : b' = b.drewN q) : Below B a b' := by rw [e]; exact h.trans ⟨rfl, rfl, rfl, Nat.le_refl _, fun _ _ => rfl⟩
/-- the lists that are held, the document's one, the numbers that were lent -/
structure LI (w : World) (G : Nat → List Nat) (Lc : List Nat) (cv : Value) (xs : List Value) (nv : Value) (wr : World) (V : Value) (vs : List Value) : Prop where
  list : JV ES wr w.heap.size V vs
  rows : RS wr w.heap.size vs (fun t => bs (G t))
  c : JV E8 wr w.heap.size cv (bs Lc)
  n : JV E64 wr w.heap.size nv xs
  capart : ∀ t b, t < vs.length → (vs.getD t nil).ownBlock = some b → cv.ownBlock ≠ some b
  below : Below w.heap.size w wr
section
variable {w : World} {G : Nat → List Nat} {Lc : List Nat} {cv : Value} {xs : List Value} {nv : Value}
theorem LI.keep {wr w' : World} {V : Value} {vs : List Value} (h : LI w G Lc cv xs nv wr V vs) (hb : Below wr.heap.size wr w') : LI w G Lc cv xs nv w' V vs :=
  ⟨h.list.below hb, ⟨fun i hi => (h.rows.row i hi).below hb, h.rows.apart⟩, h.c.below hb, h.n.below hb, h.capart, h.below.trans (hb.mono h.below.size)⟩
theorem LI.add {v : Value} {wr w' : World} {V V' : Value} {vs : List Value} {o : Obj} (h : LI w G Lc cv xs nv wr V vs) (hv : JV E8 wr w.heap.size v (bs (G vs.length))) (hc : ∀ b, v.ownBlock = some b → cv.ownBlock ≠ some b) (hn : ∀ t b, t < vs.length → v.ownBlock = some b → (vs.getD t nil).ownBlock ≠ some b)
    (hp : AppPost ES (wr.alloc o) w.heap.size V vs v V' w') : LI w G Lc cv xs nv w' V' (vs ++ [v]) := by
  have hal : Below wr.heap.size wr (wr.alloc o) := (Below.refl _ _).alloc (Nat.le_refl _) o
  have ha := h.keep hal
  have hva := hv.below hal
  have k : ∀ {E : TypeId} {u : Value} {ys : List Value}, E ≠ ES → JV E (wr.alloc o) w.heap.size u ys → JV E w' w.heap.size u ys := fun {E u ys} hE hu => hu.grownO hp.grown fun g hg e => hu.ne ha.list hE hg e.symm
  have hgs : ∀ t, (vs ++ [v]).getD t nil = if t = vs.length then v else vs.getD t nil := fun t => getD_snoc rfl
  refine ⟨hp.row, ⟨fun i hi => ?_, fun i j g hi hj hij hg => ?_⟩, k (by decide) ha.c, k (by decide) ha.n, fun t b ht hb => ?_, ha.below.grown hp.grown ha.below.size fun q hq => ha.list.blk_ge q hq⟩
  · rw [hgs]
    split
    · rename_i e; rw [e]; exact k (by decide) hva
    · exact k (by decide) (ha.rows.row i (by rw [List.length_append] at hi; simp at hi; omega))
  · rw [List.length_append] at hi hj
    simp only [List.length_singleton] at hi hj
    rw [hgs] at hg ⊢
    by_cases h1 : i = vs.length
    · rw [if_pos h1] at hg
      rw [if_neg (by omega)]
      exact hn j g (by omega) hg
    · rw [if_neg h1] at hg
      by_cases h2 : j = vs.length
      · rw [if_pos h2]
        intro q
        exact hn i g (by omega) q hg
      · rw [if_neg h2]
        exact h.rows.apart i j g (by omega) (by omega) hij hg
  · rw [List.length_append] at ht
    simp only [List.length_singleton] at ht
    rw [hgs] at hb
    by_cases h1 : t = vs.length
    · rw [if_pos h1] at hb; exact hc b hb
    · rw [if_neg h1] at hb; exact h.capart t b (by omega) hb
/-- four lists at first -/
theorem four_li {w6 : World} {v : Nat → Value} (hv : ∀ t, t < 4 → JV E8 w6 w.heap.size (v t) (bs (G t)) ∧ (v t).oneCell' = true) (ha : ∀ s t b, s < 4 → t < 4 → s ≠ t → (v s).ownBlock = some b → (v t).ownBlock ≠ some b) (hc : JV E8 w6 w.heap.size cv (bs Lc)) (hn : JV E64 w6 w.heap.size nv xs) (hca : ∀ t b, t < 4 → (v t).ownBlock = some b → cv.ownBlock ≠ some b) (hB : Below w.heap.size w w6) :
    LI w G Lc cv xs nv (w6.alloc (.cells #[v 0, v 1, v 2, v 3] ES)) (.slice (some ⟨w6.heap.size, 0, none⟩) 4 4) [v 0, v 1, v 2, v 3] := by
  have hal : Below w6.heap.size w6 (w6.alloc (.cells #[v 0, v 1, v 2, v 3] ES)) := (Below.refl _ _).alloc (Nat.le_refl _) _
  have hblk : Blk (w6.alloc (.cells #[v 0, v 1, v 2, v 3] ES)) w6.heap.size ES [v 0, v 1, v 2, v 3] := Blk.new w6 ES [v 0, v 1, v 2, v 3]
  have hg : ∀ t, t < 4 → [v 0, v 1, v 2, v 3].getD t nil = v t := by
    intro t ht
    have : t = 0 ∨ t = 1 ∨ t = 2 ∨ t = 3 := by omega
    rcases this with rfl | rfl | rfl | rfl <;> rfl
  refine ⟨⟨?_, rfl, .inr ⟨w6.heap.size, 4, #[v 0, v 1, v 2, v 3], rfl, hB.size, hblk, by simp, by simp [maxLen], rfl, rfl⟩⟩, ⟨fun i hi => ?_, fun i j g hi hj hij => ?_⟩, hc.below hal, hn.below hal, fun t b ht => ?_, hB.alloc hB.size _⟩
  · intro u hu
    simp at hu
    rcases hu with rfl | rfl | rfl | rfl
    · exact (hv 0 (by omega)).2
    · exact (hv 1 (by omega)).2
    · exact (hv 2 (by omega)).2
    · exact (hv 3 (by omega)).2
  · simp only [List.length_cons, List.length_nil] at hi
    rw [hg i (by omega)]
    exact (hv i (by omega)).1.below hal
  · simp only [List.length_cons, List.length_nil] at hi hj
    rw [hg i (by omega), hg j (by omega)]
    exact ha i j g (by omega) (by omega) hij
  · simp only [List.length_cons, List.length_nil] at ht
    rw [hg t (by omega)]
    exact hca t b (by omega)
end
/-- rows that are kept -/
def All (wr : World) (ps : List (TypeId × Nat × Value × List Value)) : Prop := ∀ p ∈ ps, JV p.1 wr p.2.1 p.2.2.1 p.2.2.2
theorem All.keep {wr w' : World} {ps : List (TypeId × Nat × Value × List Value)} (h : All wr ps) (hb : Below wr.heap.size wr w') : All w' ps := fun p hp => (h p hp).below hb
theorem All.add {wr : World} {ps : List (TypeId × Nat × Value × List Value)} (h : All wr ps) {E : TypeId} {b : Nat} {v : Value} {xs : List Value} (hj : JV E wr b v xs) : All wr ((E, b, v, xs) :: ps) := by
  intro p hp
  rcases List.mem_cons.1 hp with rfl | hp
  · exact hj
  · exact h p hp
theorem All.a0 {wr : World} {p : TypeId × Nat × Value × List Value} {ps : List (TypeId × Nat × Value × List Value)} (h : All wr (p :: ps)) : JV p.1 wr p.2.1 p.2.2.1 p.2.2.2 := h p List.mem_cons_self
theorem All.tl {wr : World} {p : TypeId × Nat × Value × List Value} {ps : List (TypeId × Nat × Value × List Value)} (h : All wr (p :: ps)) : All wr ps := fun q hq => h q (List.mem_cons_of_mem _ hq)
/-- what the lists hold -/
def Gd (l more : List Nat) (t : Nat) : List Nat := if t = 1 then enc more else enc l
set_option maxRecDepth 100000 in
set_option maxHeartbeats 4000000 in
theorem walkB (vl vm : Value) (l more : List Nat) (w : World) (hL : IsN w vl l) (hM : IsN w vm more) (hl : l.length ≤ 1048576) (hm : more.length ≤ 1048576) :
    Calls Try.prog 5 #[vl, vm] w fun e w' => e = .returned (.bool true) ∧ Below w.heap.size w w' := by
  have HL := hd hL
  have HM := hd hM
  have HNL := hd hL.1
  have hel := enc_len (l := l) hL.1
  have hem := enc_len (l := more) hM.1
  have HBL : Hid (Byt (enc l)) := enc_byt l
  have HBM : Hid (Byt (enc more)) := enc_byt more
  obtain ⟨al, cl0, rfl⟩ := hL.shape
  clear hL hM
  go_enter Try.func5, Try.ntmps5
  go_wp2_with fail
  refine Calls.mono (lentNums_is _ l w HL.out (by omega)) ?_
  rintro e w1 ⟨rfl, hN1, hB1⟩
  have HN1 := hd hN1
  have HB1 := hd hB1
  have HI1 := hd (lent_isN hN1 HNL.out)
  clear hN1 hB1
  go_wp2_with fail
  refine Calls.mono (encode_is _ l w1 HI1.out (by omega)) ?_
  rintro e w2 ⟨rfl, hJ, hB⟩
  have HA2 : Hid (All w2 [(E8, w1.heap.size, .slice (some ⟨w1.heap.size, 0, none⟩) (enc l).length (enc l).length, bs (enc l)), (E64, w.heap.size, .slice (some ⟨w.heap.size, 0, none⟩) (l.length + 8) (l.length + 8), ks .u64 (mk7 l))]) := All.add (All.add (fun p hp => by cases hp) (HN1.out.below hB)) (jv_of hJ)
  have HB2 := hd (HB1.out.trans (hB.mono HB1.out.size))
  have h12 : w1.heap.size < w2.heap.size := (jv_of hJ).blk_lt w1.heap.size rfl
  clear hJ hB HI1
  have HI2 := hd (lent_isN HA2.out.tl.a0 HNL.out)
  go_wp2_with fail
  refine Calls.mono (encode_is _ l w2 HI2.out (by omega)) ?_
  rintro e w3 ⟨rfl, hJ, hB⟩
  have HA3 := hd ((HA2.out.keep hB).add (jv_of hJ))
  have HB3 := hd (HB2.out.trans (hB.mono HB2.out.size))
  have h23 : w2.heap.size < w3.heap.size := (jv_of hJ).blk_lt w2.heap.size rfl
  clear hJ hB HI2 HA2
  go_wp2_with fail
  refine Calls.mono (rencode_is _ l w3 (HL.out.below HB3.out) (by omega)) ?_
  rintro e w4 ⟨⟨ac, kc, rfl, hJ⟩, hB⟩
  have HA4 := hd ((HA3.out.keep hB).add (jv_of hJ))
  have HB4 := hd (HB3.out.trans (hB.mono HB3.out.size))
  have h34 : w3.heap.size ≤ w4.heap.size := hB.size
  have HCO : Hid (∀ b, (Value.slice ac (enc l).length kc).ownBlock = some b → w3.heap.size ≤ b ∧ b < w4.heap.size) := fun b hb => ⟨(jv_of hJ).blk_ge b hb, (jv_of hJ).blk_lt b hb⟩
  clear hJ hB HA3
  go_wp2_with fail
  refine Calls.mono (same_is _ _ (enc l) (enc l) w4 (jb_of HBL.out HA4.out.tl.tl.a0).isB (jb_of HBL.out HA4.out.a0).isB) ?_
  rintro e w5 ⟨rfl, q5, hw5⟩
  rw [decide_eq_true (rfl : enc l = enc l)]
  have hB : Below w4.heap.size w4 w5 := drew_below (Below.refl _ _) hw5
  have HA5 := hd (HA4.out.keep hB)
  have HB5 := hd (HB4.out.trans (hB.mono HB4.out.size))
  have h45 : w4.heap.size ≤ w5.heap.size := hB.size
  clear hw5 hB HA4
  go_wp2_with fail
  refine Calls.mono (encode_is vm more w5 (HM.out.below HB5.out) (by omega)) ?_
  rintro e w6 ⟨rfl, hJ, hB⟩
  have HA6 := hd ((HA5.out.keep hB).add (jv_of hJ))
  have HB6 := hd (HB5.out.trans (hB.mono HB5.out.size))
  have h56 : w5.heap.size < w6.heap.size := (jv_of hJ).blk_lt w5.heap.size rfl
  clear hJ hB HA5
  have HI6 := hd (lent_isN HA6.out.tl.tl.tl.tl.a0 HNL.out)
  go_wp2_with fail
  refine Calls.mono (encode_is _ l w6 HI6.out (by omega)) ?_
  rintro e w7 ⟨rfl, hJ, hB⟩
  have HA7 := hd ((HA6.out.keep hB).add (jv_of hJ))
  have HB7 := hd (HB6.out.trans (hB.mono HB6.out.size))
  have h67 : w6.heap.size < w7.heap.size := (jv_of hJ).blk_lt w6.heap.size rfl
  clear hJ hB HA6 HI6
  go_wp2_with fail
  refine Calls.mono (same_is _ _ (enc l) (enc l) w7 (jb_of HBL.out HA7.out.tl.tl.tl.tl.a0).isB (jb_of HBL.out HA7.out.tl.tl.a0).isB) ?_
  rintro e w8 ⟨rfl, q8, hw8⟩
  rw [decide_eq_true (rfl : enc l = enc l)]
  have hB : Below w7.heap.size w7 w8 := drew_below (Below.refl _ _) hw8
  have HA8 := hd (HA7.out.keep hB)
  have HB8 := hd (HB7.out.trans (hB.mono HB7.out.size))
  have h78 : w7.heap.size ≤ w8.heap.size := hB.size
  clear hw8 hB HA7
  go_wp2_with fail
  refine Calls.mono (same_is _ _ (enc l) (enc l) w8 (jb_of HBL.out HA8.out.tl.tl.tl.a0).isB (jb_of HBL.out HA8.out.tl.tl.a0).isB) ?_
  rintro e w9 ⟨rfl, q9, hw9⟩
  rw [decide_eq_true (rfl : enc l = enc l)]
  have hB : Below w8.heap.size w8 w9 := drew_below (Below.refl _ _) hw9
  have HA9 := hd (HA8.out.keep hB)
  have HB9 := hd (HB8.out.trans (hB.mono HB8.out.size))
  have h89 : w8.heap.size ≤ w9.heap.size := hB.size
  clear hw9 hB HA8
  go_wp2_with fail
  refine Calls.mono (rencode_is vm more w9 (HM.out.below HB9.out) (by omega)) ?_
  rintro e w10 ⟨⟨am, km, rfl, hJ⟩, hB⟩
  have HA10 := hd (HA9.out.keep hB)
  have HJm := hd hJ.isB
  have HB10 := hd (HB9.out.trans (hB.mono HB9.out.size))
  have h90 : w9.heap.size ≤ w10.heap.size := hB.size
  clear hJ hB HA9
  go_wp2_with fail
  refine Calls.mono (same_is _ _ (enc more) (enc more) w10 (jb_of HBM.out HA10.out.tl.a0).isB HJm.out) ?_
  rintro e w11 ⟨rfl, q11, hw11⟩
  rw [decide_eq_true (rfl : enc more = enc more)]
  have hB : Below w10.heap.size w10 w11 := drew_below (Below.refl _ _) hw11
  have HA11 := hd (HA10.out.keep hB)
  have HB11 := hd (HB10.out.trans (hB.mono HB10.out.size))
  have h01 : w10.heap.size ≤ w11.heap.size := hB.size
  clear hw11 hB HA10 HJm
  go_wp2_with fail
  refine Calls.mono (same_is _ _ (enc l) (enc l) w11 (jb_of HBL.out HA11.out.a0).isB (jb_of HBL.out HA11.out.tl.tl.a0).isB) ?_
  rintro e w12 ⟨rfl, q12, hw12⟩
  rw [decide_eq_true (rfl : enc l = enc l)]
  have hB : Below w11.heap.size w11 w12 := drew_below (Below.refl _ _) hw12
  have HA12 := hd (HA11.out.keep hB)
  have HB12 := hd (HB11.out.trans (hB.mono HB11.out.size))
  have h112 : w11.heap.size ≤ w12.heap.size := hB.size
  clear hw12 hB HA11
  go_wp2_with fail
  refine Calls.mono (encode_nil _ _ w12) ?_
  rintro e w13 ⟨rfl, _, hB⟩
  have HA13 := hd (HA12.out.keep hB)
  have HB13 := hd (HB12.out.trans (hB.mono HB12.out.size))
  have h123 : w12.heap.size ≤ w13.heap.size := hB.size
  clear hB HA12
  have hs1 := HB1.out.size
  have HLI : Hid (LI w (Gd l more) (enc l) (.slice ac (enc l).length kc) (ks .u64 (mk7 l)) (.slice (some ⟨w.heap.size, 0, none⟩) (l.length + 8) (l.length + 8)) (w13.alloc (.cells #[.slice (some ⟨w1.heap.size, 0, none⟩) (enc l).length (enc l).length, .slice (some ⟨w5.heap.size, 0, none⟩) (enc more).length (enc more).length, .slice (some ⟨w6.heap.size, 0, none⟩) (enc l).length (enc l).length, .slice (some ⟨w2.heap.size, 0, none⟩) (enc l).length (enc l).length] ES)) (.slice (some ⟨w13.heap.size, 0, none⟩) 4 4) [.slice (some ⟨w1.heap.size, 0, none⟩) (enc l).length (enc l).length, .slice (some ⟨w5.heap.size, 0, none⟩) (enc more).length (enc more).length, .slice (some ⟨w6.heap.size, 0, none⟩) (enc l).length (enc l).length, .slice (some ⟨w2.heap.size, 0, none⟩) (enc l).length (enc l).length]) := by
    refine four_li (w := w) (w6 := w13) (G := Gd l more) (v := fun t => [Value.slice (some ⟨w1.heap.size, 0, none⟩) (enc l).length (enc l).length, .slice (some ⟨w5.heap.size, 0, none⟩) (enc more).length (enc more).length, .slice (some ⟨w6.heap.size, 0, none⟩) (enc l).length (enc l).length, .slice (some ⟨w2.heap.size, 0, none⟩) (enc l).length (enc l).length].getD t nil) ?_ ?_ (HA13.out.tl.tl.a0.mono (by show w.heap.size ≤ w3.heap.size; omega)) HA13.out.tl.tl.tl.tl.tl.a0 ?_ HB13.out
    · intro t ht
      have : t = 0 ∨ t = 1 ∨ t = 2 ∨ t = 3 := by omega
      rcases this with rfl | rfl | rfl | rfl
      · exact ⟨HA13.out.tl.tl.tl.tl.a0.mono (by show w.heap.size ≤ w1.heap.size; omega), rfl⟩
      · exact ⟨HA13.out.tl.a0.mono (by show w.heap.size ≤ w5.heap.size; omega), rfl⟩
      · exact ⟨HA13.out.a0.mono (by show w.heap.size ≤ w6.heap.size; omega), rfl⟩
      · exact ⟨HA13.out.tl.tl.tl.a0.mono (by show w.heap.size ≤ w2.heap.size; omega), rfl⟩
    · intro s t b hs ht hst h1 h2
      have e1 : s = 0 ∨ s = 1 ∨ s = 2 ∨ s = 3 := by omega
      have e2 : t = 0 ∨ t = 1 ∨ t = 2 ∨ t = 3 := by omega
      rcases e1 with rfl | rfl | rfl | rfl <;> rcases e2 with rfl | rfl | rfl | rfl <;> simp [Value.ownBlock] at h1 h2 <;> omega
    · intro t b ht h1 h2
      have h3 := HCO.out b h2
      have e1 : t = 0 ∨ t = 1 ∨ t = 2 ∨ t = 3 := by omega
      rcases e1 with rfl | rfl | rfl | rfl <;> simp [Value.ownBlock] at h1 <;> omega
  clear HA13
  go_wp2_with fail
  go_loopw [12, 13] (fun V x wr => ∃ (i : Nat) (a : Option Addr) (k : Nat) (vs : List Value), i ≤ 14 ∧ x = .int .i64 (i : Int) ∧ vs.length = 4 + i ∧ V = .slice a (4 + i) k ∧ LI w (Gd l more) (enc l) (.slice ac (enc l).length kc) (ks .u64 (mk7 l)) (.slice (some ⟨w.heap.size, 0, none⟩) (l.length + 8) (l.length + 8)) wr V vs) (fun _ x _ => 14 - (intOf x).toNat)
  case atStart => exact ⟨0, _, _, _, by omega, rfl, rfl, rfl, HLI.out⟩
  case round =>
    obtain ⟨i, a, k, vs, hi, rfl, hvl, rfl, hX⟩ := hrel
    obtain ⟨wb, hww⟩ : ∃ wb, wb = wr := ⟨_, rfl⟩
    subst hww
    have HX := hd hX
    have HVL := hd hvl
    clear hX hvl HLI
    by_cases hlt : i < 14
    · have hii : ((i : Nat) : Int) < 14 := by omega
      have HIb := hd (lent_isN HX.out.n HNL.out)
      go_wp2_with fail
      refine Calls.mono (encode_is _ l wb HIb.out (by omega)) ?_
      rintro e v7 ⟨rfl, hJ5, hB7⟩
      have HJ5 := hd (jv_of hJ5)
      have HX7 := hd (HX.out.keep hB7)
      clear hJ5 hB7 HIb
      go_wp2_with fail
      refine Calls.mono (same_is _ _ (enc l) (enc l) v7 (jb_of HBL.out HJ5.out).isB (jb_of HBL.out HX7.out.c).isB) ?_
      rintro e v8 ⟨rfl, p8, hw8⟩
      rw [decide_eq_true (rfl : enc l = enc l)]
      have HK8 : Hid (Below v7.heap.size v7 v8) := drew_below (Below.refl _ _) hw8
      have HX8 := hd (HX7.out.keep HK8.out)
      have HJ8 : Hid (JV E8 v8 w.heap.size (.slice (some ⟨wb.heap.size, 0, none⟩) (enc l).length (enc l).length) (bs (Gd l more vs.length))) := by
        have : Gd l more vs.length = enc l := by unfold Gd; rw [if_neg (by rw [HVL.out]; omega)]
        rw [this]
        exact (HJ5.out.below HK8.out).mono HX.out.below.size
      clear hw8
      go_wp2_with (at_builtin; refine wpList_append_keep (E := ES) (S := 39) (z := .slice none 0 0) (by_ := 24) Try.underlying39 info_sl rfl _ rfl _ _ rfl w.heap.size _ vs ⟨v8.heap.size, 0, none⟩ 1 (.slice (some ⟨wb.heap.size, 0, none⟩) (enc l).length (enc l).length) rfl rfl (HX8.out.list.below ((Below.refl v8.heap.size v8).alloc (Nat.le_refl _) _)) (World.cell?_alloc_new _ _ _ _) rfl (4 + i + 1) (by rw [HVL.out]) (by omega) (by unfold maxLen; omega) (by have := HX8.out.below.size; simp; omega) ?_; intro a6 c6 v9 hP; have HP := hd hP; clear hP)
      have HX9 := hd (HX8.out.add HJ8.out (fun b h1 h2 => by have := HX.out.c.blk_lt b h2; simp [Value.ownBlock] at h1; omega) (fun t b ht h1 h2 => by have := (HX.out.rows.row t ht).blk_lt b h2; simp [Value.ownBlock] at h1; omega) HP.out)
      exact ⟨⟨i + 1, a6, c6, _, by omega, by go_num, by rw [List.length_append, HVL.out]; rfl, rfl, HX9.out⟩, by simp [intOf]; omega⟩
    · have hii : ¬ ((i : Nat) : Int) < 14 := by omega
      have e14 : i = 14 := by omega
      have hv16 : vs.length = 18 := by rw [HVL.out, e14]
      obtain ⟨gl, hgl⟩ : ∃ gl, a = some ⟨gl, 0, none⟩ := by
        obtain ⟨_, _, ⟨e1, e2⟩ | ⟨g, cap, cur, e1, _⟩⟩ := HX.out.list
        · rw [hv16] at e2; omega
        · injection e1 with e1; exact ⟨g, e1⟩
      have HXL : Hid (JV ES wb w.heap.size (.slice (some ⟨gl, 0, none⟩) vs.length k) vs) := by
        have := HX.out.list
        rw [hgl, ← HVL.out] at this
        exact this
      have HGL : Hid (∀ t, (bs (Gd l more t)).length ≤ 10485760) := by
        intro t
        rw [bs_len]
        unfold Gd
        split <;> omega
      have HOW := hd (owns_is wb w.heap.size gl k vs (fun t => bs (Gd l more t)) HXL.out HX.out.rows (by omega) (fun t _ => by have := HGL.out t; omega) HX.out.below.size)
      rw [HVL.out, ← hgl] at HOW
      have HV16 := hd hv16
      clear hlt hi e14 hgl hv16
      go_wp2_with fail
      refine Calls.mono HOW.out ?_
      rintro e v8 ⟨rfl, V2, gs, hIn⟩
      have HT8 : Hid (In3 wb.heap.size w.heap.size gl k vs (fun t => bs (Gd l more t)) 58 v8 V2 gs) := (by have h1 := hIn; rw [← HVL.out] at h1; exact h1.three)
      have HC8 : Hid (JV E8 v8 w.heap.size (.slice ac (enc l).length kc) (bs (enc l))) := HX.out.c.same fun b hb => hIn.kept.2 b (HX.out.c.blk_lt b hb) fun t ht q => HX.out.capart t b ht q hb
      have HN8 : Hid (JV E64 v8 w.heap.size (.slice (some ⟨w.heap.size, 0, none⟩) (l.length + 8) (l.length + 8)) (ks .u64 (mk7 l))) := HX.out.n.same fun b hb => hIn.kept.2 b (HX.out.n.blk_lt b hb) fun t ht q => HX.out.n.ne (HX.out.rows.row t ht) (by decide) hb q
      have HB8' := hd (HX.out.below.trans hIn.below)
      clear hIn HOW
      go_wp2_with fail
      refine Calls.mono (size_nil none 0 v8) ?_
      rintro e v8 ⟨rfl, rfl⟩
      have HI8 := hd (lent_isN HN8.out HNL.out)
      go_wp2_with fail
      refine Calls.mono (size_is _ l v8 HI8.out (by omega)) ?_
      rintro e v8 ⟨rfl, rfl⟩
      go_wp2_with fail
      refine Calls.mono (encode_is _ l v8 HI8.out (by omega)) ?_
      rintro e v9 ⟨rfl, hJ, hB⟩
      have HJl := hd (jv_of hJ)
      have HT9 := hd (HT8.out.keep hB)
      have HC9 := hd (HC8.out.below hB)
      have HN9 := hd (HN8.out.below hB)
      have HB9' := hd (HB8'.out.trans (hB.mono HB8'.out.size))
      clear hJ hB HI8 HT8 HC8 HN8
      go_wp2_with fail
      refine Calls.mono (keptNums_is w.heap.size (l.length + 8) w.heap.size _ l v9 HN9.out (HL.out.below HB9'.out)) ?_
      rintro e v10 ⟨rfl, p10, hw10⟩
      have hB : Below v9.heap.size v9 v10 := drew_below (Below.refl _ _) hw10
      have HJl10 := hd (HJl.out.below hB)
      have HT10 := hd (HT9.out.keep hB)
      have HC10 := hd (HC9.out.below hB)
      have HN10 := hd (HN9.out.below hB)
      have HB10' := hd (HB9'.out.trans (hB.mono HB9'.out.size))
      clear hw10 hB HT9 HC9 HN9 HJl
      go_wp2_with fail
      refine Calls.mono (same_is _ _ (enc l) (enc l) v10 (jb_of HBL.out HJl10.out).isB (jb_of HBL.out HC10.out).isB) ?_
      rintro e v11 ⟨rfl, p11, hw11⟩
      rw [decide_eq_true (rfl : enc l = enc l)]
      have hB : Below v10.heap.size v10 v11 := drew_below (Below.refl _ _) hw11
      have HT11 := hd (HT10.out.keep hB)
      have HN11 := hd (HN10.out.below hB)
      have HB11' := hd (HB10'.out.trans (hB.mono HB10'.out.size))
      clear hw11 hB HT10 HC10 HN10 HJl10
      have hV18 := HV16.out
      go_wp2_with fail
      refine Calls.mono (still_is v11 wb.heap.size 58 (fun t => (bs (Gd l more t)).length) vs.length (HT11.out.sti (by omega)) (by omega) (fun t _ => by have := HGL.out t; omega)) ?_
      rintro e v11 ⟨rfl, rfl⟩
      clear hV18
      go_wp2_with fail
      go_loopw [21] (fun x wr => ∃ (i : Nat) (F : List Nat), i ≤ l.length ∧ x = .int .i64 (i : Int) ∧ F.length = l.length + 8 ∧ (∀ y ∈ F, y < 18446744073709551616) ∧ JV E64 wr w.heap.size (.slice (some ⟨w.heap.size, 0, none⟩) (l.length + 8) (l.length + 8)) (ks .u64 F) ∧ In3 wb.heap.size w.heap.size gl k vs (fun t => bs (Gd l more t)) 58 wr V2 gs ∧ Below w.heap.size w wr) (fun x _ => l.length - (intOf x).toNat)
      case atStart =>
        refine ⟨0, mk7 l, by omega, rfl, mk7_len l, ?_, HN11.out, HT11.out, HB11'.out⟩
        intro y hy
        rcases List.mem_append.1 hy with hy | hy
        · exact HNL.out y hy
        · rw [List.eq_of_mem_replicate hy]; omega
      case round =>
        obtain ⟨i2, F, hi2, rfl, hFl, hFb, hJF, hTF, hBF⟩ := hrel
        have HFL := hd hFl
        have HFB := hd hFb
        have HJF := hd hJF
        have HTF := hd hTF
        have HBF := hd hBF
        clear hFl hFb hJF hTF hBF HN11 HT11
        by_cases hlt2 : i2 < l.length
        · have hii2 : ((i2 : Nat) : Int) < (l.length : Int) := by omega
          have hiF : i2 < F.length := by rw [HFL.out]; omega
          obtain ⟨hcell, hfro⟩ := HJF.out.at.2.2.2.2.2 i2 _ (ks_at .u64 F i2 hiF)
          have hx : F.getD i2 0 < 18446744073709551616 := HFB.out _ (by rw [List.getD_eq_getElem?_getD, List.getElem?_eq_getElem hiF]; exact List.getElem_mem hiF)
          have HXO : Hid (bits .xor .u64 ((F.getD i2 0 : Nat) : Int) 129 = ((F.getD i2 0 ^^^ 129 : Nat) : Int)) := u64_xor_nat (F.getD i2 0) 129 hx (by omega)
          have hxx : F.getD i2 0 ^^^ 129 < 18446744073709551616 := Nat.xor_lt_two_pow (n := 64) hx (by decide)
          have HS := hd (HJF.out.set (j := i2) (by rw [ks_len, HFL.out]) (u := .int .u64 ((F.getD i2 0 ^^^ 129 : Nat) : Int)) rfl)
          rw [ks_set] at HS
          have HTP := hd (HTF.out.put (j := i2) (u := .int .u64 ((F.getD i2 0 ^^^ 129 : Nat) : Int)) HJF.out (by decide) (by decide) (by decide))
          have HFB2 : Hid (∀ y ∈ F.set i2 (F.getD i2 0 ^^^ 129), y < 18446744073709551616) := by
            intro y hy
            rcases List.mem_or_eq_of_mem_set hy with hy | hy
            · exact HFB.out y hy
            · rw [hy]; exact hxx
          have HLT2 : Hid (i2 + 1 ≤ l.length) := hlt2
          clear hiF hxx hi2
          generalize F.getD i2 0 = z at *
          go_wp2_with fail
          rw [HXO.out]
          exact ⟨⟨i2 + 1, _, HLT2.out, by go_num, by rw [List.length_set]; exact HFL.out, HFB2.out, HS.out, HTP.out, HBF.out.setCell (p := ⟨w.heap.size, i2, none⟩) (Nat.le_refl _) _⟩, by have := HLT2.out; simp [intOf]; omega⟩
        · have hii2 : ¬ ((i2 : Nat) : Int) < (l.length : Int) := by omega
          have HIF : Hid (IsN wr (.slice (some ⟨w.heap.size, 0, none⟩) l.length (l.length + 8)) (F.take l.length)) := (isN_of HJF.out HFB.out).take l.length (by rw [HFL.out]; omega)
          have hFl : (F.take l.length).length = l.length := by rw [List.length_take, HFL.out]; omega
          have HFLL := hd hFl
          have HIF0 : Hid (IsN wr (.slice (some ⟨w.heap.size, 0, none⟩) (F.take l.length).length (l.length + 8)) (F.take l.length)) := by
            show IsN wr (.slice (some ⟨w.heap.size, 0, none⟩) (F.take l.length).length (l.length + 8)) (F.take l.length)
            rw [hFl]; exact HIF.out
          have heF := enc_len (l := F.take l.length) HIF.out.1
          rw [hFl] at heF
          have HBY : Hid (Byt (enc (F.take l.length))) := enc_byt _
          have HFle : Hid ((F.take l.length).length ≤ 1048576) := by show (F.take l.length).length ≤ 1048576; omega
          clear hlt2 hi2 hFl
          generalize F.take l.length = F2 at *
          go_wp2_with fail
          refine Calls.mono (encode_is _ F2 wr HIF.out (by have := HFle.out; omega)) ?_
          rintro e v12 ⟨rfl, hJ, hB⟩
          have HJn := hd hJ.isB
          have HT12 := hd (HTF.out.keep hB)
          have HI12 := hd (HIF.out.below hB)
          have HB12' := hd (HBF.out.trans (hB.mono HBF.out.size))
          clear hJ hB
          go_wp2_with fail
          refine Calls.mono (size_is _ F2 v12 HI12.out (by have := HFle.out; omega)) ?_
          rintro e v12 ⟨rfl, rfl⟩
          go_wp2_with fail
          refine Calls.mono (rencode_is _ F2 v12 HI12.out (by have := HFle.out; omega)) ?_
          rintro e v13 ⟨⟨a13, k13, rfl, hJ⟩, hB⟩
          have HJn13 := hd (HJn.out.below hB)
          have HJr := hd hJ.isB
          have HT13 := hd (HT12.out.keep hB)
          have HI13 := hd (HI12.out.below hB)
          have HB13' := hd (HB12'.out.trans (hB.mono HB12'.out.size))
          clear hJ hB
          go_wp2_with fail
          refine Calls.mono (same_is _ _ (enc F2) (enc F2) v13 HJn13.out HJr.out) ?_
          rintro e v14 ⟨rfl, p14, hw14⟩
          rw [decide_eq_true (rfl : enc F2 = enc F2)]
          have hB : Below v13.heap.size v13 v14 := drew_below (Below.refl _ _) hw14
          have HT14 := hd (HT13.out.keep hB)
          have HI14 := hd (HI13.out.below hB)
          have HB14' := hd (HB13'.out.trans (hB.mono HB13'.out.size))
          clear hw14 hB
          go_wp2_with fail
          refine Calls.mono (rsize_is _ F2 v14 HI14.out (by have := HFle.out; omega)) ?_
          rintro e v15 ⟨rfl, hB⟩
          have HT15 := hd (HT14.out.keep hB)
          have HB15' := hd (HB14'.out.trans (hB.mono HB14'.out.size))
          clear hB
          go_wp2_with fail
          refine Calls.mono (rsize_is _ l v15 (HL.out.below HB15'.out) (by omega)) ?_
          rintro e v16 ⟨rfl, hB⟩
          have HT16 := hd (HT15.out.keep hB)
          have HB16' := hd (HB15'.out.trans (hB.mono HB15'.out.size))
          clear hB
          have hV18 := HV16.out
          go_wp2_with fail
          refine Calls.mono (still_is v16 wb.heap.size 58 (fun t => (bs (Gd l more t)).length) vs.length (HT16.out.sti (by omega)) (by omega) (fun t _ => by have := HGL.out t; omega)) ?_
          rintro e v16 ⟨rfl, rfl⟩
          clear hV18
          go_wp2_with fail
          refine Calls.mono (works_any _) ?_
          rintro e v17 ⟨rfl, hB⟩
          have HB17' := hd (HB16'.out.trans (hB.mono HB16'.out.size))
          clear hB
          go_wp2_with fail
          go_ret
          exact ⟨rfl, HB17'.out⟩
theorem walk (a0 : Option Addr) (len0 cap0 : Nat) (z0 : List Int) (a1 : Option Addr) (len1 cap1 : Nat) (z1 : List Int) (w : World) (w0 : IsRow .u64 w a0 len0 cap0 z0) (w1 : IsRow .u64 w a1 len1 cap1 z1) (hm : len0 + len1 ≤ 1048576) :
    Calls Try.prog 5 #[.slice a0 len0 cap0, .slice a1 len1 cap1] w fun e w' => e = .returned (.bool true) ∧ Below w.heap.size w w' := by
  obtain ⟨l, hl, hI⟩ := w0.isN
  obtain ⟨m, hl2, hI2⟩ := w1.isN
  exact walkB _ _ l m w hI hI2 (by omega) (by omega)
/-- numbers weigh one each -/
theorem lits_bulk {H : Type} (k : IntKind) (zs : List Int) : zs.length ≤ Rows.uptoBulkAll (lits (H := H) k zs) := by
  induction zs with
  | nil => exact Nat.zero_le _
  | cons z r ih =>
    rw [show lits (H := H) k (z :: r) = .lit (.int k z) :: lits k r from rfl]
    simp only [Rows.uptoBulkAll, Rows.uptoBulk, List.length_cons]
    omega
set_option linter.unusedVariables false
set_option maxRecDepth 100000 in
theorem lifted (os : Os) (started : os.Started) (H : Type) (enc : TypeId × Value → H) (F : Stop.Interp) :
    ReturnsInHanded {} Try.checked os 5 .any ((Rows.OpenSpec.upto Rows.vintEncodeSpec).pre6 enc Try.prog Try.f5 Rows.vintEncodeUptoRow.domain false) (((Rows.OpenSpec.upto Rows.vintEncodeSpec).at F).post enc Try.prog Try.f5 false true false false) := by
  refine returnsInHanded_of_cond (C := Try.checked) (s := Rows.OpenSpec.upto Rows.vintEncodeSpec) (k := Rows.uptoSmall) rfl own started (by kernel_rfl) Try.func5
    (OpenSpec.witness (enc := enc) (C := Try.checked) (s := Rows.OpenSpec.upto Rows.vintEncodeSpec) (k := Rows.uptoSmall) rfl false ⟨#[], #[.slice none 0 0, .slice none 0 0], []⟩ 8 (by kernel_rfl) (by kernel_rfl) (by kernel_rfl)
      (x := ([.nil, .nil], [], [])) (by kernel_rfl) rfl (by kernel_rfl)) ?_
  intro W base args ds gs before hval0 hW _ hk0 _
  have hk : Rows.uptoBulkAll (ds ++ gs) ≤ 1048576 := of_decide_eq_true hk0
  clear hk0
  have hval : ∀ (j : Nat) t v, Try.f5.params[j]? = some t → args[j]? = some v → Value.okWide Try.prog W .any base t v := hval0
  have hW' := hW
  obtain ⟨p, q, hA0, hV, rfl, hfz, hnd⟩ := hW
  have hA : DataW.TrodAll enc Try.prog W 0 (fun _ => true) true Try.f5.params.toList args.toList ds p := hA0
  rw [Try.params5] at hA hval
  obtain ⟨v0, vs0, d0, ds0, p0, q0, hargs, rfl, rfl, h0, r0⟩ := trodAll_cons hA
  obtain ⟨v1, vs1, d1, ds1, p1, q1, rfl, rfl, rfl, h1, r1⟩ := trodAll_cons r0
  obtain ⟨rfl, rfl, rfl⟩ := trodAll_nil r1
  obtain rfl : args = #[v0, v1] := by cases args; simp_all
  obtain ⟨rfl, rfl⟩ := trodVars_none hV
  have opens_u64 : ∀ (v : Value) (d : DataW H) (pl : List MemPlace) (a : Option Addr) (len cap : Nat), v = .slice a len cap → DataW.Trod enc Try.prog W 0 (fun _ => true) true 45 v d pl → ∃ zs, IsRow .u64 W a len cap zs ∧ len ≤ Rows.uptoBulk d := by
    rintro v d pl a len cap rfl ⟨fuel, hf⟩
    rcases open_ints Try.underlying45 Try.underlying29 (by kernel_rfl) hf with ⟨hcs, _⟩ | ⟨x, l, c, zs, hcs, _, hl, hm, hz, hx, hcell, hwz⟩
    · simp [Value.cells] at hcs
      obtain ⟨rfl, rfl, rfl⟩ := hcs
      exact ⟨[], .inl ⟨rfl, rfl, rfl, rfl⟩, by omega⟩
    · simp [Value.cells] at hcs
      obtain ⟨rfl, rfl, rfl⟩ := hcs
      have hz2 : zs.length = cap := by simpa using hz
      simp only [Prod.mk.injEq] at hx
      refine ⟨zs, .inr ⟨_, rfl, hl, hm, hz2, hcell, hwz⟩, ?_⟩
      rw [hx.1]
      have h1 := lits_bulk (H := H) .u64 (zs.take len)
      rw [List.length_take] at h1
      simp only [Rows.uptoBulk]
      omega
  obtain ⟨a0, len0, cap0, rfl⟩ := okWide_slice Try.underlying45 (hval 0 45 v0 rfl rfl)
  obtain ⟨a1, len1, cap1, rfl⟩ := okWide_slice Try.underlying45 (hval 1 45 v1 rfl rfl)
  have k0 := h0
  have k1 := h1
  have lt0 : ∀ x ∈ p0, x.block < W.heap.size := by obtain ⟨m, hm⟩ := k0; exact DataW.trod_lt m _ _ _ hm
  have lt1 : ∀ x ∈ p1, x.block < W.heap.size := by obtain ⟨m, hm⟩ := k1; exact DataW.trod_lt m _ _ _ hm
  obtain ⟨z0, w0, b0⟩ := opens_u64 _ d0 p0 a0 len0 cap0 rfl h0
  obtain ⟨z1, w1, b1⟩ := opens_u64 _ d1 p1 a1 len1 cap1 rfl h1
  have hm : len0 + len1 ≤ 1048576 := by
    simp only [List.cons_append, Rows.uptoBulkAll] at hk
    omega
  clear hA0 hval0
  refine (walk a0 len0 cap0 z0 a1 len1 cap1 z1 W w0 w1 hm).mono fun e W' ⟨he, bel⟩ => ?_
  subst he
  exact ⟨_, rfl, _, _, _, [], _, [], hW', trodAll_mk1 (shut_bool Try.underlying4 _), (trodAll_cons_mk (Below.trod laidOut (by kernel_rfl) (of_decide_eq_true (by kernel_rfl)) k0 bel lt0) (trodAll_cons_mk (Below.trod laidOut (by kernel_rfl) (of_decide_eq_true (by kernel_rfl)) k1 bel lt1) trodAll_mk0)), rfl, bel.frame _, fun h => by cases h⟩
theorem over : Rows.VintEncodeUptoSaid :=
  OpenClaim.holds_of_cond 5 Try.f5 rfl rfl rfl rfl rfl rfl rfl ⟨rfl, rfl, rfl, rfl, rfl⟩ rfl rfl rfl rfl rfl (by kernel_rfl) Try.func5 (by kernel_rfl)
    (of_decide_eq_true (by kernel_rfl)) (by unfold Func.isWrapper; first | (rw [if_pos (by decide +kernel)]; kernel_rfl) | (rw [if_neg (by decide +kernel)]; exact ⟨rfl, rfl⟩))
    (fun os started H enc _ F => lifted os started H enc F)
end Ven

theorem vintEncode_upto : Rows.VintEncodeUptoSaid := Ven.over
#print axioms vintEncode_upto
end Go.Proofs.Ytlpefafpgjogeaa
