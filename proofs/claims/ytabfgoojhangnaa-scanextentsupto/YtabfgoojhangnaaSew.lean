/-
  ScanExtents' walk: Extents, Next and Clean say what the document's say; lists that came out are each their owner's.
-/
import Derived.Test.YtabfgoojhangnaaXebd
import Derived.Test.YtabfgoojhangnaaXebe
import Derived.Test.YtabfgoojhangnaaXebi
import Derived.Test.YtabfgoojhangnaaXebj
import Derived.Test.YtabfgoojhangnaaXeby
import Derived.Test.YtabfgoojhangnaaXebz
import Derived.Test.YtabfgoojhangnaaXeca
import Derived.Test.YtabfgoojhangnaaXebf
import Derived.Test.YtabfgoojhangnaaXebg
namespace Go.Proofs.Ytabfgoojhangnaa
open Go.ChangeShapes Go.WideShapes Go.ChangeAt Go.RowKit Go.Shelf
namespace Os
open Vt Ow
/-- what a call of Extents leaves -/
def ExQ (l : List Nat) (w : World) (e : Ending) (w' : World) : Prop := (∃ a c, e = .returned (.slice a (exts l).length c) ∧ (exts l).length ≤ c ∧ JE w' w.heap.size (.slice a (exts l).length c) ((exts l).map exv)) ∧ Below w.heap.size w w'
theorem exQ_of {l : List Nat} {w : World} {e : Ending} {w' : World} (h : ∃ v', e = .returned v' ∧ JE w' w.heap.size v' ((exts l).map exv) ∧ Below w.heap.size w w') : ExQ l w e w' := by
  obtain ⟨v', rfl, hj, hb⟩ := h
  obtain ⟨a, c, rfl, hc⟩ := hj.shape
  rw [List.length_map] at hj hc ⊢
  exact ⟨⟨a, c, rfl, hc, hj⟩, hb⟩
theorem extentsQ (v : Value) (l : List Nat) (w : World) (hI : IsB w v l) (hl : l.length ≤ 10000000) : Calls Try.prog 5 #[v] w (ExQ l w) := Calls.mono (extents_is v l w hI (by omega)) fun _ _ h => exQ_of h
theorem rextentsQ (v : Value) (l : List Nat) (w : World) (hI : IsB w v l) (hl : l.length ≤ 10000000) : Calls Try.prog 7 #[v] w (ExQ l w) := Calls.mono (r5_extents v l w hI hl) fun _ _ h => exQ_of h
/-- the clean bytes -/
noncomputable def clb (l : List Nat) : List Nat := cln l (locs 0 l)
/-- what a call of Clean leaves -/
def ClQ (l : List Nat) (w : World) (e : Ending) (w' : World) : Prop := (∃ a c, e = .returned (.slice a (clb l).length c) ∧ (clb l).length ≤ c ∧ JB w' w.heap.size (.slice a (clb l).length c) (clb l)) ∧ Below w.heap.size w w'
theorem clQ_of {l : List Nat} {w : World} {e : Ending} {w' : World} (h : ∃ v', e = .returned v' ∧ JB w' w.heap.size v' (cln l (locs 0 l)) ∧ Below w.heap.size w w') : ClQ l w e w' := by
  obtain ⟨v', rfl, hj, hb⟩ := h
  obtain ⟨a, c, rfl, hc⟩ := hj.shape
  exact ⟨⟨a, c, rfl, hc, hj⟩, hb⟩
theorem cleanQ (v : Value) (l : List Nat) (w : World) (hI : IsB w v l) (hl : l.length ≤ 10000000) : Calls Try.prog 10 #[v] w (ClQ l w) := Calls.mono (clean_is v l w hI hl) fun _ _ h => clQ_of h
theorem rcleanQ (v : Value) (l : List Nat) (w : World) (hI : IsB w v l) (hl : l.length ≤ 10000000) : Calls Try.prog 12 #[v] w (ClQ l w) := Calls.mono (r5_clean v l w hI hl) fun _ _ h => clQ_of h
theorem same_eq (va vb : Value) (l : List Nat) (w : World) (hA : IsB w va l) (hB : IsB w vb l) : Calls Try.prog 11 #[va, vb] w fun e w' => e = .returned (.bool true) ∧ ∃ n, w' = w.drewN n :=
  Calls.mono (ssame_is va vb l l w hA hB) fun e w' h => ⟨by rw [h.1]; simp, h.2⟩
theorem clb_len {l : List Nat} (hb : Byt l) : (clb l).length ≤ l.length := cln_len hb
theorem jb_jv {w : World} {base : Nat} {v : Value} {l : List Nat} (h : JB w base v l) : JV E8 w base v (bs l) := ⟨bs_one l, by rw [bs_len]; exact h.2⟩
theorem flat_one : ∀ xs : List Value, (xs.map fun u => [u]).flatten = xs := by
  intro xs
  induction xs with
  | nil => rfl
  | cons x r ih => rw [List.map_cons, List.flatten_cons, ih]; rfl
theorem jv_jr {E : TypeId} {w : World} {base : Nat} {v : Value} {xs : List Value} (h : JV E w base v xs) : JR E 1 w base v (xs.map fun u => [u]) := by
  refine ⟨fun r hr => ?_, ?_⟩
  · obtain ⟨u, hu, rfl⟩ := List.mem_map.1 hr
    exact ⟨rfl, fun u' hu' => by simp at hu'; rw [hu']; exact h.1 u hu⟩
  · rw [flat_one, List.length_map]; exact h.2
/-- what stands while the lists are asked for -/
structure RX (w : World) (a oa : Option Addr) (c oc : Nat) (l m : List Nat) (wk : World) : Prop where
  data : IsB wk (.slice a l.length c) l
  oth : IsB wk (.slice oa m.length oc) m
  own : Buf wk (w.heap.size + 1) (l.length + 8) (mk8 l)
  box : Blk wk w.heap.size XB [.slice none 0 0, .slice none 0 0]
  below : Below w.heap.size w wk
theorem RX.keep {w : World} {a oa : Option Addr} {c oc : Nat} {l m : List Nat} {wk w' : World} (h : RX w a oa c oc l m wk) (hb : Below wk.heap.size wk w') : RX w a oa c oc l m w' :=
  ⟨h.data.below hb, h.oth.below hb, h.own.below h.own.2.2.1 hb, h.box.keep hb, h.below.trans (hb.mono h.below.size)⟩
/-- what stands while lists are put into the book -/
structure KP (X : Nat) (wA : World) (LV : Value) (vs : List Value) (wk : World) : Prop where
  list : JV XS wk X LV vs
  box : Blk wk X XB [LV, .slice none 0 0]
  keep : KeepS (fun b => b < wA.heap.size ∧ b ≠ X) wA wk
  fresh : ∀ b, LV.ownBlock = some b → wA.heap.size ≤ b
theorem KP.start {X : Nat} {wA : World} (hb : Blk wA X XB [.slice none 0 0, .slice none 0 0]) : KP X wA (.slice none 0 0) [] wA :=
  ⟨⟨by simp, rfl, .inl ⟨rfl, rfl⟩⟩, hb, KeepS.refl _, fun b hb => by cases hb⟩
theorem KP.step {X : Nat} {wA wk w' : World} {LV LV' u : Value} {vs : List Value} (h : KP X wA LV vs wk) (hp : KeepP X wk X LV vs u LV' w') : KP X wA LV' (vs ++ [u]) w' := by
  have hs := h.keep.size
  refine ⟨hp.list, hp.box, h.keep.trans ⟨hp.below.os, hp.below.tape, hp.below.output, hp.size, fun b hb => hp.block b (by omega) hb.2 fun e => by have := h.fresh b e; omega⟩, fun b hb => ?_⟩
  rcases hp.fresh b hb with e | e
  · exact h.fresh b e
  · omega
theorem KP.jr {X : Nat} {wA wk : World} {LV : Value} {vs : List Value} (h : KP X wA LV vs wk) {base : Nat} {v : Value} {xs : List (List Value)} (hv : JR XE 3 wA base v xs) (hX : X < base) : JR XE 3 wk base v xs :=
  hv.keepS (S := fun b => b < wA.heap.size ∧ b ≠ X) (fun g hg => ⟨hv.blk_lt g hg, by have := hv.blk_ge g hg; omega⟩) h.keep
theorem KP.jv {X : Nat} {wA wk : World} {LV : Value} {vs : List Value} (h : KP X wA LV vs wk) {base : Nat} {v : Value} {xs : List Value} (hv : JV E8 wA base v xs) (hX : X < base) : JV E8 wk base v xs :=
  hv.same fun g hg => h.keep.block g ⟨hv.blk_lt g hg, by have := hv.blk_ge g hg; omega⟩
theorem two_rl {E : TypeId} {sz : Nat} {w : World} {base : Nat} {a b : Value} {x y : List (List Value)} (h0 : JR E sz w base a x) (h1 : JR E sz w base b y) (ab : ∀ g, a.ownBlock = some g → b.ownBlock ≠ some g) : RSR E sz w base [a, b] (fun t => if t = 1 then y else x) := by
  have two : ∀ i, i < [a, b].length → i = 0 ∨ i = 1 := fun i hi => by simp at hi; omega
  refine ⟨fun i hi => ?_, fun i j g hi hj hij hg hq => ?_⟩
  · rcases two i hi with rfl | rfl
    · exact h0
    · exact h1
  · rcases two i hi with rfl | rfl <;> rcases two j hj with rfl | rfl
    · exact hij rfl
    · exact ab g hg hq
    · exact ab g hq hg
    · exact hij rfl
theorem four_rx {E : TypeId} {sz : Nat} {w : World} {base : Nat} {a b c d : Value} {x y : List (List Value)} (h0 : JR E sz w base a x) (h1 : JR E sz w base b x) (h2 : JR E sz w base c y) (h3 : JR E sz w base d x) (ab : ∀ g, a.ownBlock = some g → b.ownBlock ≠ some g) (ac : ∀ g, a.ownBlock = some g → c.ownBlock ≠ some g) (ad : ∀ g, a.ownBlock = some g → d.ownBlock ≠ some g) (bc : ∀ g, b.ownBlock = some g → c.ownBlock ≠ some g) (bd : ∀ g, b.ownBlock = some g → d.ownBlock ≠ some g) (cd : ∀ g, c.ownBlock = some g → d.ownBlock ≠ some g) :
    RSR E sz w base [a, b, c, d] (fun t => if t = 2 then y else x) := by
  have four : ∀ i, i < [a, b, c, d].length → i = 0 ∨ i = 1 ∨ i = 2 ∨ i = 3 := fun i hi => by simp at hi; omega
  refine ⟨fun i hi => ?_, fun i j g hi hj hij hg hq => ?_⟩
  · rcases four i hi with rfl | rfl | rfl | rfl
    · exact h0
    · exact h1
    · exact h2
    · exact h3
  · rcases four i hi with rfl | rfl | rfl | rfl <;> rcases four j hj with rfl | rfl | rfl | rfl
    · exact hij rfl
    · exact ab g hg hq
    · exact ac g hg hq
    · exact ad g hg hq
    · exact ab g hq hg
    · exact hij rfl
    · exact bc g hg hq
    · exact bd g hg hq
    · exact ac g hq hg
    · exact bc g hq hg
    · exact hij rfl
    · exact cd g hg hq
    · exact ad g hq hg
    · exact bd g hq hg
    · exact cd g hq hg
    · exact hij rfl
theorem rx_apart {E : TypeId} {sz : Nat} {w2 : World} {n b2 : Nat} {v1 v2 : Value} {x2 : List (List Value)} (h1 : ∀ b, v1.ownBlock = some b → b < n) (h2 : JR E sz w2 b2 v2 x2) (h : n ≤ b2) : ∀ g, v1.ownBlock = some g → v2.ownBlock ≠ some g := by
  intro g e1 e2
  have := h1 g e1
  have := h2.blk_ge g e2
  omega
theorem lists_two (w : World) (base m : Nat) (a b : Value) (hm : w.heap.size = m) (hb : base ≤ m) (h1 : a.oneCell' = true) (h2 : b.oneCell' = true) : JV ES (w.alloc (.cells #[a, b] ES)) base (.slice (some ⟨m, 0, none⟩) 2 2) [a, b] := by
  subst hm
  have hblk : Blk (w.alloc (.cells #[a, b] ES)) w.heap.size ES [a, b] := Blk.new w ES [a, b]
  exact ⟨(by intro u hu; simp only [List.mem_cons, List.mem_nil_iff, or_false] at hu; rcases hu with e | e <;> rw [e] <;> assumption), rfl, .inr ⟨w.heap.size, 2, #[a, b], rfl, hb, hblk, by simp, by simp [maxLen], rfl, rfl⟩⟩
theorem jv_some {E : TypeId} {w : World} {base n c : Nat} {a : Option Addr} {xs : List Value} (h : JV E w base (.slice a n c) xs) (h0 : xs ≠ []) : ∃ g, a = some ⟨g, 0, none⟩ := by
  obtain ⟨_, _, ⟨_, e2⟩ | ⟨g, cap, cur, e1, _⟩⟩ := h
  · exact absurd (List.length_eq_zero_iff.1 e2) h0
  · injection e1 with e1
    exact ⟨g, e1⟩
theorem B2.bytes {w : World} {base X b2 n : Nat} {LV GV v : Value} {vs gs xs : List Value} {f : Nat → List (List Value)} {wr : World} (h : BK2 w base X LV vs f wr n gs GV) (h0 : RSR XE 3 w base vs f) (hv : JV E8 w b2 v xs) (hX : X < b2) : JV E8 wr b2 v xs :=
  hv.same fun b hb => h.kept.2 b (hv.blk_lt b hb) (by have := hv.blk_ge b hb; omega) fun i hi e => jr_ne_jv (h0.row i hi) hv (by decide) e hb
/-- what stands behind the lists' writing -/
structure RY (w : World) (a : Option Addr) (c : Nat) (l : List Nat) (wk : World) : Prop where
  data : IsB wk (.slice a l.length c) l
  own : Buf wk (w.heap.size + 1) (l.length + 8) (mk8 l)
  below : Below w.heap.size w wk
theorem RY.keep {w : World} {a : Option Addr} {c : Nat} {l : List Nat} {wk w' : World} (h : RY w a c l wk) (hb : Below wk.heap.size wk w') : RY w a c l w' :=
  ⟨h.data.below hb, h.own.below h.own.2.2.1 hb, h.below.trans (hb.mono h.below.size)⟩
set_option pp.maxSteps 1000000 in
set_option maxRecDepth 100000 in
set_option maxHeartbeats 40000000 in
theorem extents_walk (v : Value) (l : List Nat) (z : Int) (ov : Value) (m : List Nat) (w : World) (hI : IsB w v l) (hO : IsB w ov m) (hl : l.length ≤ 1048576) (hm : m.length ≤ 1048576) :
    Calls Try.prog 3 #[v, .int .i64 z, ov] w fun e w' => e = .returned (.bool true) ∧ Below w.heap.size w w' := by
  obtain ⟨a, c, rfl⟩ := hI.shape
  obtain ⟨oa, oc, rfl⟩ := hO.shape
  have HI := hd hI
  have HO := hd hO
  clear hI hO
  have hmx : Try.prog.follows .mixedOrders = true := by kernel_rfl
  go_enter Try.func3, Try.ntmps3
  go_wp2_with fail
  obtain ⟨w0, hw0⟩ : ∃ w0, w0 = w.alloc (.cells #[.slice none 0 0, .slice none 0 0] 26) := ⟨_, rfl⟩
  have hs0 : w0.heap.size = w.heap.size + 1 := by rw [hw0]; simp
  have HB0 : Hid (Below w.heap.size w w0) := by rw [hw0]; exact (Below.refl _ _).alloc (Nat.le_refl _) _
  have HX0 : Hid (Blk w0 w.heap.size XB [.slice none 0 0, .slice none 0 0]) := by rw [hw0]; exact Blk.new w XB [.slice none 0 0, .slice none 0 0]
  rw [← hw0]
  clear hw0
  refine Calls.mono (lent_is _ l w0 (HI.out.below HB0.out) (by omega)) ?_
  rintro e w1 ⟨rfl, j1, b1⟩
  rw [hs0] at j1 ⊢
  have HS1 : Hid (RX w a oa c oc l m w1) := ⟨(HI.out.below HB0.out).below b1, (HO.out.below HB0.out).below b1, j1.buf, HX0.out.keep b1, HB0.out.trans (b1.mono (by omega))⟩
  have hz1 : w.heap.size + 2 ≤ w1.heap.size := j1.buf.2.2.1
  clear j1 b1 HX0 HB0
  go_wp2_with fail
  refine Calls.mono (extentsQ _ l w1 (lent_isB HS1.out.own) (by omega)) ?_
  rintro e w2 ⟨⟨ax, cx, rfl, hcx, jx⟩, bx⟩
  have HS2 := hd (HS1.out.keep bx)
  have Lx : Hid (∀ b, (Value.slice ax (exts l).length cx).ownBlock = some b → b < w2.heap.size) := fun b hb => jx.blk_lt b hb
  have Jx := hd jx
  have hzx := bx.size
  clear jx bx HS1
  go_wp2_with fail
  refine Calls.mono (extentsQ _ l w2 (lent_isB HS2.out.own) (by omega)) ?_
  rintro e w3 ⟨⟨an, cn, rfl, hcn, jn⟩, bn⟩
  have HS3 := hd (HS2.out.keep bn)
  have Jx := hd (Jx.out.keepAll bn)
  have Ln : Hid (∀ b, (Value.slice an (exts l).length cn).ownBlock = some b → b < w3.heap.size) := fun b hb => jn.blk_lt b hb
  have Jn := hd jn
  have hzn := bn.size
  clear jn bn HS2
  go_wp2_with fail
  refine Calls.mono (rextentsQ _ l w3 HS3.out.data (by omega)) ?_
  rintro e w4 ⟨⟨ar, cr, rfl, hcr, jr⟩, br⟩
  have HS4 := hd (HS3.out.keep br)
  have Jx := hd (Jx.out.keepAll br)
  have Jn := hd (Jn.out.keepAll br)
  have Jr := hd jr
  have hzr := br.size
  clear jr br HS3
  go_wp2_with fail
  refine Calls.mono (Sj.sameEx_is _ _ (exts l) w4 _ _ Jx.out Jr.out) ?_
  rintro e w5 ⟨rfl, bs⟩
  have HS5 := hd (HS4.out.keep bs)
  have Jx := hd (Jx.out.keepAll bs)
  have Jn := hd (Jn.out.keepAll bs)
  have hzs := bs.size
  clear bs HS4 Jr
  go_wp2_with fail
  refine Calls.mono (snext_is _ l z w5 (lent_isB HS5.out.own)) ?_
  rintro e w6 ⟨rfl, bt⟩
  have HS6 := hd (HS5.out.keep bt)
  have Jx := hd (Jx.out.keepAll bt)
  have Jn := hd (Jn.out.keepAll bt)
  have hzt := bt.size
  clear bt HS5
  obtain ⟨p, hp⟩ : ∃ p, (fst l z).1 = p := ⟨_, rfl⟩
  obtain ⟨q, hq⟩ : ∃ q, (fst l z).2 = q := ⟨_, rfl⟩
  have HP := hd hp
  have HQ := hd hq
  rw [hp, hq]
  clear hp hq
  go_wp2_with fail
  have hnx := r5_next (.slice a l.length c) l z w6 HS6.out.data (by omega)
  rw [HP.out, HQ.out] at hnx
  refine Calls.mono hnx ?_
  clear hnx
  rintro e w7 ⟨rfl, bt⟩
  have HS7 := hd (HS6.out.keep bt)
  have Jx := hd (Jx.out.keepAll bt)
  have Jn := hd (Jn.out.keepAll bt)
  have hzt7 := bt.size
  clear bt HS6
  go_wp2_with fail
  refine Calls.mono (cleanQ _ l w7 (lent_isB HS7.out.own) (by omega)) ?_
  rintro e w8 ⟨⟨ac, cc, rfl, hcc, jc⟩, bc⟩
  have HS8 := hd (HS7.out.keep bc)
  have Jx := hd (Jx.out.keepAll bc)
  have Jn := hd (Jn.out.keepAll bc)
  have Lc : Hid (∀ b, (Value.slice ac (clb l).length cc).ownBlock = some b → b < w8.heap.size) := fun b hb => jc.blk_lt b hb
  have Jc := hd jc
  have hzc := bc.size
  clear jc bc HS7
  go_wp2_with fail
  refine Calls.mono (rcleanQ _ l w8 HS8.out.data (by omega)) ?_
  rintro e w9 ⟨⟨ad, cd, rfl, hcd, jd⟩, bd⟩
  have HS9 := hd (HS8.out.keep bd)
  have Jx := hd (Jx.out.keepAll bd)
  have Jn := hd (Jn.out.keepAll bd)
  have Jc := hd (Jc.out.keepAll bd)
  have Jd := hd jd
  have hzd := bd.size
  clear jd bd HS8
  go_wp2_with fail
  refine Calls.mono (same_eq _ _ (clb l) w9 Jc.out.isB Jd.out.isB) ?_
  rintro e w10 ⟨rfl, n10, rfl⟩
  have b10 : Below w9.heap.size w9 (w9.drewN n10) := below_drewN (Below.refl _ _) n10
  generalize w9.drewN n10 = w10 at *
  have HS10 := hd (HS9.out.keep b10)
  have Jx := hd (Jx.out.keepAll b10)
  have Jn := hd (Jn.out.keepAll b10)
  have Jc := hd (Jc.out.keepAll b10)
  have hz10 := b10.size
  clear b10 HS9 Jd
  go_wp2_with fail
  refine Calls.mono (skept_is _ _ _ l w10 HS10.out.own HS10.out.data) ?_
  rintro e w11 ⟨rfl, n11, rfl⟩
  have b11 : Below w10.heap.size w10 (w10.drewN n11) := below_drewN (Below.refl _ _) n11
  generalize w10.drewN n11 = w11 at *
  have HS11 := hd (HS10.out.keep b11)
  have Jx := hd (Jx.out.keepAll b11)
  have Jn := hd (Jn.out.keepAll b11)
  have Jc := hd (Jc.out.keepAll b11)
  have hz11 := b11.size
  clear b11 HS10
  go_wp2_with fail
  refine Calls.mono (extentsQ _ m w11 HS11.out.oth (by omega)) ?_
  rintro e w12 ⟨⟨ao, co, rfl, hco, jo⟩, bo⟩
  have HS12 := hd (HS11.out.keep bo)
  have Jx := hd (Jx.out.keepAll bo)
  have Jn := hd (Jn.out.keepAll bo)
  have Jc := hd (Jc.out.keepAll bo)
  have Lo : Hid (∀ b, (Value.slice ao (exts m).length co).ownBlock = some b → b < w12.heap.size) := fun b hb => jo.blk_lt b hb
  have Jo := hd jo
  have hzo := bo.size
  clear jo bo HS11
  go_wp2_with fail
  refine Calls.mono (extentsQ _ l w12 (lent_isB HS12.out.own) (by omega)) ?_
  rintro e w13 ⟨⟨aw, cw, rfl, hcw, jw⟩, bw⟩
  have HS13 := hd (HS12.out.keep bw)
  have Jx := hd (Jx.out.keepAll bw)
  have Jn := hd (Jn.out.keepAll bw)
  have Jc := hd (Jc.out.keepAll bw)
  have Jo := hd (Jo.out.keepAll bw)
  have Jw := hd jw
  have hzw := bw.size
  clear jw bw HS12
  go_wp2_with fail
  refine Calls.mono (cleanQ _ l w13 (lent_isB HS13.out.own) (by omega)) ?_
  rintro e w14 ⟨⟨al, cl, rfl, hcl, jl⟩, bl⟩
  have HS14 := hd (HS13.out.keep bl)
  have Jx := hd (Jx.out.keepAll bl)
  have Jn := hd (Jn.out.keepAll bl)
  have Jc := hd (Jc.out.keepAll bl)
  have Jo := hd (Jo.out.keepAll bl)
  have Jw := hd (Jw.out.keepAll bl)
  have Jl := hd jl
  have hzl := bl.size
  clear jl bl HS13
  go_wp2_with fail
  refine Calls.mono (rextentsQ _ m w14 HS14.out.oth (by omega)) ?_
  rintro e w15 ⟨⟨ae, ce, rfl, hce, je⟩, be⟩
  have HS15 := hd (HS14.out.keep be)
  have Jx := hd (Jx.out.keepAll be)
  have Jn := hd (Jn.out.keepAll be)
  have Jc := hd (Jc.out.keepAll be)
  have Jo := hd (Jo.out.keepAll be)
  have Jw := hd (Jw.out.keepAll be)
  have Jl := hd (Jl.out.keepAll be)
  have Je := hd je
  have hze := be.size
  clear je be HS14
  go_wp2_with fail
  refine Calls.mono (Sj.sameEx_is _ _ (exts m) w15 _ _ Jo.out Je.out) ?_
  rintro e w16 ⟨rfl, bs⟩
  have HS16 := hd (HS15.out.keep bs)
  have Jx := hd (Jx.out.keepAll bs)
  have Jn := hd (Jn.out.keepAll bs)
  have Jc := hd (Jc.out.keepAll bs)
  have Jo := hd (Jo.out.keepAll bs)
  have Jw := hd (Jw.out.keepAll bs)
  have Jl := hd (Jl.out.keepAll bs)
  have hzs16 := bs.size
  clear bs HS15 Je
  go_wp2_with fail
  refine Calls.mono (Sj.sameEx_is _ _ (exts l) w16 _ _ Jw.out Jx.out) ?_
  rintro e w17 ⟨rfl, bs⟩
  have HS17 := hd (HS16.out.keep bs)
  have Jx := hd (Jx.out.keepAll bs)
  have Jn := hd (Jn.out.keepAll bs)
  have Jc := hd (Jc.out.keepAll bs)
  have Jo := hd (Jo.out.keepAll bs)
  have Jw := hd (Jw.out.keepAll bs)
  have Jl := hd (Jl.out.keepAll bs)
  have hzs17 := bs.size
  clear bs HS16
  go_wp2_with fail
  refine Calls.mono (Sj.sameEx_is _ _ (exts l) w17 _ _ Jn.out Jx.out) ?_
  rintro e w18 ⟨rfl, bs⟩
  have HS18 := hd (HS17.out.keep bs)
  have Jx := hd (Jx.out.keepAll bs)
  have Jn := hd (Jn.out.keepAll bs)
  have Jc := hd (Jc.out.keepAll bs)
  have Jo := hd (Jo.out.keepAll bs)
  have Jw := hd (Jw.out.keepAll bs)
  have Jl := hd (Jl.out.keepAll bs)
  have hzs18 := bs.size
  clear bs HS17
  go_wp2_with fail
  refine Calls.mono (rextentsQ _ l w18 HS18.out.data (by omega)) ?_
  rintro e w19 ⟨⟨ae, ce, rfl, hce, je⟩, be⟩
  have HS19 := hd (HS18.out.keep be)
  have Jx := hd (Jx.out.keepAll be)
  have Jn := hd (Jn.out.keepAll be)
  have Jc := hd (Jc.out.keepAll be)
  have Jo := hd (Jo.out.keepAll be)
  have Jw := hd (Jw.out.keepAll be)
  have Jl := hd (Jl.out.keepAll be)
  have Je := hd je
  have hze19 := be.size
  clear je be HS18
  go_wp2_with fail
  refine Calls.mono (Sj.sameEx_is _ _ (exts l) w19 _ _ Jx.out Je.out) ?_
  rintro e w20 ⟨rfl, bs⟩
  have HS20 := hd (HS19.out.keep bs)
  have Jx := hd (Jx.out.keepAll bs)
  have Jn := hd (Jn.out.keepAll bs)
  have Jc := hd (Jc.out.keepAll bs)
  have Jo := hd (Jo.out.keepAll bs)
  have Jw := hd (Jw.out.keepAll bs)
  have Jl := hd (Jl.out.keepAll bs)
  have hzs20 := bs.size
  clear bs HS19 Je
  go_wp2_with fail
  refine Calls.mono (same_eq _ _ (clb l) w20 Jl.out.isB Jc.out.isB) ?_
  rintro e w21 ⟨rfl, n21, rfl⟩
  have b21 : Below w20.heap.size w20 (w20.drewN n21) := below_drewN (Below.refl _ _) n21
  generalize w20.drewN n21 = w21 at *
  have HS21 := hd (HS20.out.keep b21)
  have Jx := hd (Jx.out.keepAll b21)
  have Jn := hd (Jn.out.keepAll b21)
  have Jc := hd (Jc.out.keepAll b21)
  have Jo := hd (Jo.out.keepAll b21)
  have Jw := hd (Jw.out.keepAll b21)
  have Jl := hd (Jl.out.keepAll b21)
  have hz21 := b21.size
  clear b21 HS20
  go_wp2_with fail
  have HBXA := hd HS21.out.box
  have hXlt := HS21.out.box.lt
  have HK0 : Hid (KP w.heap.size w21 (.slice none 0 0) [] w21) := KP.start HS21.out.box
  refine Calls.mono (keep_is w21 w.heap.size w.heap.size none 0 [] _ _ _ HK0.out.list HK0.out.box (by simp) (Nat.le_refl _)) ?_
  rintro e w22 ⟨⟨v22, rfl⟩, a1, c1, hp⟩
  have HK1 := hd (HK0.out.step hp)
  clear hp HK0
  go_wp2_with fail
  refine Calls.mono (keep_is w22 w.heap.size w.heap.size a1 c1 _ _ _ _ HK1.out.list HK1.out.box (by simp) (Nat.le_refl _)) ?_
  rintro e w23 ⟨⟨v23, rfl⟩, a2, c2, hp⟩
  have HK2 := hd (HK1.out.step hp)
  clear hp HK1
  go_wp2_with fail
  refine Calls.mono (keep_is w23 w.heap.size w.heap.size a2 c2 _ _ _ _ HK2.out.list HK2.out.box (by simp) (Nat.le_refl _)) ?_
  rintro e w24 ⟨⟨v24, rfl⟩, a3, c3, hp⟩
  have HK3 := hd (HK2.out.step hp)
  clear hp HK2
  go_wp2_with fail
  refine Calls.mono (keep_is w24 w.heap.size w.heap.size a3 c3 _ _ _ _ HK3.out.list HK3.out.box (by simp) (Nat.le_refl _)) ?_
  rintro e w25 ⟨⟨v25, rfl⟩, a4, c4, hp⟩
  have HK4 := hd (HK3.out.step hp)
  clear hp HK3
  go_wp2_with fail
  have HK5 : Hid (KP w.heap.size w21 (.slice a4 4 c4) [.slice ax (exts l).length cx, .slice an (exts l).length cn, .slice ao (exts m).length co, .slice aw (exts l).length cw] w25) := HK4.out
  clear HK4
  obtain ⟨gl, rfl⟩ := jv_some HK5.out.list (by simp)
  have hlx : (exts l).length ≤ 2 * l.length + 1 := exts_len HS21.out.data.1
  have hlm : (exts m).length ≤ 2 * m.length + 1 := exts_len HS21.out.oth.1
  have hrs : RSR XE 3 w25 w.heap.size [.slice ax (exts l).length cx, .slice an (exts l).length cn, .slice ao (exts m).length co, .slice aw (exts l).length cw] (fun t => if t = 2 then (exts m).map exv else (exts l).map exv) := by
    have hx := Jx.out
    have hn := Jn.out
    have ho := Jo.out
    have hw := Jw.out
    refine four_rx ((HK5.out.jr hx (by omega)).lower (by omega)) ((HK5.out.jr hn (by omega)).lower (by omega)) ((HK5.out.jr ho (by omega)).lower (by omega)) ((HK5.out.jr hw (by omega)).lower (by omega)) ?_ ?_ ?_ ?_ ?_ ?_
    · exact rx_apart Lx.out hn (by omega)
    · exact rx_apart Lx.out ho (by omega)
    · exact rx_apart Lx.out hw (by omega)
    · exact rx_apart Ln.out ho (by omega)
    · exact rx_apart Ln.out hw (by omega)
    · exact rx_apart Lo.out hw (by omega)
  have hrb : ∀ i, i < 4 → ∀ b, (([.slice ax (exts l).length cx, .slice an (exts l).length cn, .slice ao (exts m).length co, .slice aw (exts l).length cw] : List Value).getD i Ow.nil).ownBlock = some b → w1.heap.size ≤ b := by
    intro i hi b hb
    have : i = 0 ∨ i = 1 ∨ i = 2 ∨ i = 3 := by omega
    rcases this with rfl | rfl | rfl | rfl
    · exact Jx.out.blk_ge b hb
    · exact Nat.le_trans (by omega) (Jn.out.blk_ge b hb)
    · exact Nat.le_trans (by omega) (Jo.out.blk_ge b hb)
    · exact Nat.le_trans (by omega) (Jw.out.blk_ge b hb)
  have HRS := hd hrs
  have HRB := hd hrb
  clear hrs hrb
  refine Calls.mono (bowns_is w25 w.heap.size w.heap.size gl c4 [.slice ax (exts l).length cx, .slice an (exts l).length cn, .slice ao (exts m).length co, .slice aw (exts l).length cw] (fun t => if t = 2 then (exts m).map exv else (exts l).map exv) HK5.out.list HRS.out HK5.out.box (by simp) (by intro t; show (if t = 2 then (exts m).map exv else (exts l).map exv).length ≤ _; split <;> rw [List.length_map] <;> omega) (Nat.le_refl _)) ?_
  rintro e w26 ⟨⟨v26, rfl⟩, a5, c5, gs, hB2⟩
  have hz25 : w21.heap.size ≤ w25.heap.size := HK5.out.keep.size
  have hz26 : w25.heap.size ≤ w26.heap.size := hB2.below.size
  have HB26 : Hid (Below w.heap.size w w26) := (HS21.out.below.trans (HK5.out.keep.below fun k hk => ⟨by omega, by omega⟩)).trans hB2.below
  have HS26 : Hid (RY w a c l w26) := by
    refine ⟨HI.out.below HB26.out, ?_, HB26.out⟩
    have ho := HS21.out.own
    have ho25 := ho.keepS (S := fun b => b < w21.heap.size ∧ b ≠ w.heap.size) ⟨ho.2.2.1, by omega⟩ HK5.out.keep
    exact ho25.keepS (S := fun b => b = w.heap.size + 1) rfl ⟨hB2.below.os, hB2.below.tape, hB2.below.output, hB2.below.size, fun k hk => hB2.kept.2 k (by omega) (by omega) (fun i hi e => by have := HRB.out i hi k e; omega)⟩
  have HC := hd (B2.bytes hB2 HRS.out (HK5.out.jv (jb_jv Jc.out) (by omega)) (by omega))
  have HL := hd (B2.bytes hB2 HRS.out (HK5.out.jv (jb_jv Jl.out) (by omega)) (by omega))
  have HBB := hd (B2.three hB2)
  clear hB2 HRS HRB HK5 Jx Jn Jo Jw Lx Ln Lo HBXA
  go_wp2_with fail
  have hal : Below w26.heap.size w26 (w26.alloc (.cells #[.slice ac (clb l).length cc, .slice al (clb l).length cl] 22)) := (Below.refl _ _).alloc (Nat.le_refl _) _
  have hcl8 : (clb l).length ≤ l.length := clb_len HS26.out.data.1
  have hr2 : RSR E8 1 (w26.alloc (.cells #[.slice ac (clb l).length cc, .slice al (clb l).length cl] 22)) w7.heap.size [.slice ac (clb l).length cc, .slice al (clb l).length cl] (fun t => if t = 1 then (bs (clb l)).map fun u => [u] else (bs (clb l)).map fun u => [u]) := by
    have h1 := jv_jr (HC.out.below hal)
    have h2 := jv_jr (HL.out.below hal)
    exact two_rl h1 (h2.lower (by omega)) (rx_apart Lc.out h2 (by omega))
  have HR2 := hd hr2
  have HBW := hd (byown_is (w26.alloc (.cells #[.slice ac (clb l).length cc, .slice al (clb l).length cl] 22)) w7.heap.size w26.heap.size 2 _ _ (lists_two w26 w7.heap.size w26.heap.size _ _ rfl (by omega) rfl rfl) hr2 (by simp) (by intro t; show (if t = 1 then (bs (clb l)).map (fun u => [u]) else (bs (clb l)).map fun u => [u]).length ≤ _; split <;> rw [List.length_map, bs_len] <;> omega) (by simp; omega))
  have HBB := hd (HBB.out.keep hal)
  have HS26 := hd (HS26.out.keep hal)
  clear hr2
  have hal2 := hal.size
  have hsz27 : (w26.alloc (.cells #[.slice ac (clb l).length cc, .slice al (clb l).length cl] 22)).heap.size = w26.heap.size + 1 := by simp
  generalize w26.alloc (.cells #[.slice ac (clb l).length cc, .slice al (clb l).length cl] 22) = wB at *
  refine Calls.mono HBW.out ?_
  rintro e w27 ⟨rfl, bb, kb⟩
  have HBB := hd (HBB.out.other HR2.out kb (by decide) (by decide) (by decide))
  have HB27 : Hid (Below w.heap.size w w27) := HS26.out.below.trans (bb.mono (by omega))
  have HS27 : Hid (RY w a c l w27) := ⟨HI.out.below HB27.out, HS26.out.own.below (by omega) bb, HB27.out⟩
  have hz27 := bb.size
  clear bb kb HBW HR2 HC HL HS26 HB27 HB26 hal Lc
  go_wp2_with fail
  refine Calls.mono (cleanQ _ l w27 (lent_isB HS27.out.own) (by omega)) ?_
  rintro e w28 ⟨⟨ae, ce, rfl, hce, jd⟩, bd⟩
  have HS28 := hd (HS27.out.keep bd)
  have HBB := hd (HBB.out.keep bd)
  have Jd := hd jd
  have hz28 := bd.size
  clear jd bd HS27
  go_wp2_with fail
  refine Calls.mono (extentsQ _ l w28 (lent_isB HS28.out.own) (by omega)) ?_
  rintro e w29 ⟨⟨af, cf, rfl, hcf, jf⟩, bf⟩
  have HS29 := hd (HS28.out.keep bf)
  have HBB := hd (HBB.out.keep bf)
  have Jd := hd (Jd.out.keepAll bf)
  have Jf := hd jf
  have hz29 := bf.size
  clear jf bf HS28
  go_wp2_with fail
  refine Calls.mono (blooks_is w29 w.heap.size w.heap.size gl c4 _ gs (fun t => if t = 2 then (exts m).map exv else (exts l).map exv) a5 c5 HBB.out (by simp) (by intro t; show (if t = 2 then (exts m).map exv else (exts l).map exv).length ≤ _; split <;> rw [List.length_map] <;> omega)) ?_
  rintro e w30 ⟨rfl, bk⟩
  have HS30 := hd (HS29.out.keep bk)
  have Jd := hd (Jd.out.keepAll bk)
  have Jf := hd (Jf.out.keepAll bk)
  have hz30 := bk.size
  clear bk HS29 HBB
  go_wp2_with fail
  refine Calls.mono (rcleanQ _ l w30 HS30.out.data (by omega)) ?_
  rintro e w31 ⟨⟨ag, cg, rfl, hcg, jg⟩, bg⟩
  have HS31 := hd (HS30.out.keep bg)
  have Jd := hd (Jd.out.keepAll bg)
  have Jf := hd (Jf.out.keepAll bg)
  have Jg := hd jg
  have hz31 := bg.size
  clear jg bg HS30
  go_wp2_with fail
  refine Calls.mono (same_eq _ _ (clb l) w31 Jd.out.isB Jg.out.isB) ?_
  rintro e w32 ⟨rfl, n32, rfl⟩
  have b32 : Below w31.heap.size w31 (w31.drewN n32) := below_drewN (Below.refl _ _) n32
  generalize w31.drewN n32 = w32 at *
  have HS32 := hd (HS31.out.keep b32)
  have Jf := hd (Jf.out.keepAll b32)
  clear b32 HS31 Jd Jg
  go_wp2_with fail
  refine Calls.mono (rextentsQ _ l w32 HS32.out.data (by omega)) ?_
  rintro e w33 ⟨⟨ah, ch, rfl, hch, jh⟩, bh⟩
  have HS33 := hd (HS32.out.keep bh)
  have Jf := hd (Jf.out.keepAll bh)
  have Jh := hd jh
  clear jh bh HS32
  go_wp2_with fail
  refine Calls.mono (Sj.sameEx_is _ _ (exts l) w33 _ _ Jf.out Jh.out) ?_
  rintro e w34 ⟨rfl, bs⟩
  have HS34 := hd (HS33.out.keep bs)
  clear bs HS33 Jf Jh
  go_wp2_with fail
  refine Calls.mono (skept_is _ _ _ l w34 HS34.out.own HS34.out.data) ?_
  rintro e w35 ⟨rfl, n35, rfl⟩
  have b35 : Below w34.heap.size w34 (w34.drewN n35) := below_drewN (Below.refl _ _) n35
  generalize w34.drewN n35 = w35 at *
  have HS35 := hd (HS34.out.keep b35)
  clear b35 HS34
  go_wp2_with fail
  refine Calls.mono (sturned_is (w.heap.size + 1) (l.length + 8) l.length w.heap.size (mk8 l) w35 HS35.out.own (by rw [mk8_len]; omega) (by omega)) ?_
  rintro e w36 ⟨⟨vt, rfl⟩, ⟨F, hFl, hGF⟩, bt⟩
  have HB36 := hd (HS35.out.below.trans bt)
  have HIF : Hid (IsB w36 (.slice (some ⟨w.heap.size + 1, 0, none⟩) l.length (l.length + 8)) (F.take l.length)) := (hGF.isB rfl).take l.length (by rw [hFl, mk8_len]; omega)
  have hFt : (F.take l.length).length = l.length := by rw [List.length_take, hFl, mk8_len]; omega
  obtain ⟨T, hT⟩ : ∃ T, T = F.take l.length := ⟨_, rfl⟩
  rw [← hT] at HIF hFt
  have hTl : T.length ≤ 1048576 := by omega
  clear hGF bt hFl HS35 hT
  go_wp2_with fail
  refine Calls.mono (extentsQ _ T w36 HIF.out (by omega)) ?_
  rintro e w37 ⟨⟨ai, ci, rfl, hci, ji⟩, bi⟩
  have HIF := hd (HIF.out.below bi)
  have HB37 := hd (HB36.out.trans (bi.mono HB36.out.size))
  have Ji := hd ji
  clear ji bi HB36
  go_wp2_with fail
  refine Calls.mono (cleanQ _ T w37 HIF.out (by omega)) ?_
  rintro e w38 ⟨⟨aj, cj, rfl, hcj, jj⟩, bj⟩
  have HIF := hd (HIF.out.below bj)
  have HB38 := hd (HB37.out.trans (bj.mono HB37.out.size))
  have Ji := hd (Ji.out.keepAll bj)
  have Jj := hd jj
  clear jj bj HB37
  go_wp2_with fail
  refine Calls.mono (snext_is _ T z w38 HIF.out) ?_
  rintro e w39 ⟨rfl, bt⟩
  have HIF := hd (HIF.out.below bt)
  have HB39 := hd (HB38.out.trans (bt.mono HB38.out.size))
  have Ji := hd (Ji.out.keepAll bt)
  have Jj := hd (Jj.out.keepAll bt)
  clear bt HB38
  obtain ⟨p2, hp⟩ : ∃ p, (fst T z).1 = p := ⟨_, rfl⟩
  obtain ⟨q2, hq⟩ : ∃ q, (fst T z).2 = q := ⟨_, rfl⟩
  have HP2 := hd hp
  have HQ2 := hd hq
  rw [hp, hq]
  clear hp hq
  go_wp2_with fail
  have hnx := r5_next (.slice (some ⟨w.heap.size + 1, 0, none⟩) l.length (l.length + 8)) T z w39 HIF.out (by omega)
  rw [HP2.out, HQ2.out] at hnx
  refine Calls.mono hnx ?_
  clear hnx
  rintro e w40 ⟨rfl, bt⟩
  have HIF := hd (HIF.out.below bt)
  have HB40 := hd (HB39.out.trans (bt.mono HB39.out.size))
  have Ji := hd (Ji.out.keepAll bt)
  have Jj := hd (Jj.out.keepAll bt)
  clear bt HB39
  go_wp2_with fail
  refine Calls.mono (rextentsQ _ T w40 HIF.out (by omega)) ?_
  rintro e w41 ⟨⟨ak, ck, rfl, hck, jk⟩, bk⟩
  have HIF := hd (HIF.out.below bk)
  have HB41 := hd (HB40.out.trans (bk.mono HB40.out.size))
  have Ji := hd (Ji.out.keepAll bk)
  have Jj := hd (Jj.out.keepAll bk)
  have Jk := hd jk
  clear jk bk HB40
  go_wp2_with fail
  refine Calls.mono (Sj.sameEx_is _ _ (exts T) w41 _ _ Ji.out Jk.out) ?_
  rintro e w42 ⟨rfl, bs⟩
  have HIF := hd (HIF.out.below bs)
  have HB42 := hd (HB41.out.trans (bs.mono HB41.out.size))
  have Jj := hd (Jj.out.keepAll bs)
  clear bs HB41 Ji Jk
  go_wp2_with fail
  refine Calls.mono (rcleanQ _ T w42 HIF.out (by omega)) ?_
  rintro e w43 ⟨⟨am, cm, rfl, hcm, jm⟩, bm⟩
  have HB43 := hd (HB42.out.trans (bm.mono HB42.out.size))
  have Jj := hd (Jj.out.keepAll bm)
  have Jm := hd jm
  clear jm bm HB42 HIF
  go_wp2_with fail
  refine Calls.mono (same_eq _ _ (clb T) w43 Jj.out.isB Jm.out.isB) ?_
  rintro e w44 ⟨rfl, n44, rfl⟩
  have b44 : Below w43.heap.size w43 (w43.drewN n44) := below_drewN (Below.refl _ _) n44
  generalize w43.drewN n44 = w44 at *
  have HB44 := hd (HB43.out.trans (b44.mono HB43.out.size))
  clear b44 HB43 Jj Jm
  go_wp2_with fail
  refine Calls.mono (works_is _) ?_
  rintro e w45 ⟨rfl, bw⟩
  have HB45 := hd (HB44.out.trans (bw.mono HB44.out.size))
  clear bw HB44
  go_wp2_with fail
  go_ret
  exact ⟨rfl, HB45.out⟩
end Os
end Go.Proofs.Ytabfgoojhangnaa
