/-
  ScanRecords' walk: Records says what the document's Records says, of any kinds; lists that came out are each their owner's.
-/
import Derived.Test.YtifjjoobbegpoaaMkbd
import Derived.Test.YtifjjoobbegpoaaMkbe
import Derived.Test.YtifjjoobbegpoaaMkbf
import Derived.Test.YtifjjoobbegpoaaMkbz
import Derived.Test.YtifjjoobbegpoaaMkby
import Derived.Test.YtifjjoobbegpoaaMkca
import Derived.Test.YtifjjoobbegpoaaMkbb
import Derived.Test.YtifjjoobbegpoaaMkbc
import Derived.Deep.MidRow
namespace Go.Proofs.Ytifjjoobbegpoaa
open Go.ChangeShapes Go.WideShapes Go.ChangeAt Go.RowKit Go.Shelf
namespace Os
open Vt Ow
abbrev KT : TypeId := 25
theorem info_kt : (Try.prog.info? 25).map (fun i => (i.zero, i.size, i.bytes)) = some (some (.int .i64 0), 1, 8) := by kernel_rfl
/-- kinds that came in -/
def KD (w : World) (v : Value) (zs : List Int) : Prop := ∃ a c, v = .slice a zs.length c ∧ zs.length ≤ 1048576 ∧ (zs = [] ∨ ∃ b off, a = some ⟨b, off, none⟩ ∧ b < w.heap.size ∧ zs.length ≤ c ∧ c ≤ maxLen ∧ ∀ i, i < zs.length → w.cell? ⟨b, off + i, none⟩ = some (.int .i64 (zs.getD i 0)))
theorem KD.below {w w' : World} {v : Value} {zs : List Int} (h : KD w v zs) {n : Nat} (hn : w.heap.size ≤ n) (hb : Below n w w') : KD w' v zs := by
  obtain ⟨a, c, rfl, hz, h | ⟨b, off, rfl, hlt, h1, h2, hc⟩⟩ := h
  · exact ⟨a, c, rfl, hz, .inl h⟩
  · refine ⟨_, c, rfl, hz, .inr ⟨b, off, rfl, Nat.lt_of_lt_of_le hlt hb.size, h1, h2, fun i hi => ?_⟩⟩
    rw [hb.cell (Nat.lt_of_lt_of_le hlt hn)]; exact hc i hi
/-- the kinds that are meant -/
def kzs (zs : List Int) : List Int := if zs = [] then [1, 2] else zs
/-- what a call of Records leaves -/
def RcQ (zs : List Int) (l : List Nat) (w : World) (e : Ending) (w' : World) : Prop := (∃ a c, e = .returned (.slice a (recs (kzs zs) l).length c) ∧ (recs (kzs zs) l).length ≤ c ∧ JL w' w.heap.size (.slice a (recs (kzs zs) l).length c) ((recs (kzs zs) l).map lcv)) ∧ Below w.heap.size w w'
theorem rcQ_of {zs : List Int} {l : List Nat} {w : World} {e : Ending} {w' : World} (h : ∃ v', e = .returned v' ∧ JL w' w.heap.size v' ((recs (kzs zs) l).map lcv) ∧ Below w.heap.size w w') : RcQ zs l w e w' := by
  obtain ⟨v', rfl, hj, hb⟩ := h
  obtain ⟨a, c, rfl, hc⟩ := hj.shape
  rw [List.length_map] at hj hc ⊢
  exact ⟨⟨a, c, rfl, hc, hj⟩, hb⟩
theorem recordsQ (v : Value) (l : List Nat) (kv : Value) (zs : List Int) (w : World) (hI : IsB w v l) (hK : KD w kv zs) (hl : l.length ≤ 10000000) : Calls Try.prog 7 #[v, kv] w (RcQ zs l w) := by
  obtain ⟨a, c, rfl, hz, h | ⟨b, off, rfl, hlt, h1, h2, hc⟩⟩ := hK
  · subst h
    exact Calls.mono (records_empty v l a c w hI (by omega)) fun _ _ h => rcQ_of (zs := []) h
  · by_cases h0 : zs = []
    · subst h0
      exact Calls.mono (records_empty v l _ c w hI (by omega)) fun _ _ h => rcQ_of (zs := []) h
    · refine Calls.mono (records_row v l b off c zs w hI (by omega) (fun e => h0 (List.eq_nil_of_length_eq_zero e)) hlt hc (by omega)) fun _ _ h => rcQ_of ?_
      rw [kzs, if_neg h0]; exact h
theorem rrecordsQ (v : Value) (l : List Nat) (kv : Value) (zs : List Int) (w : World) (hI : IsB w v l) (hK : KD w kv zs) (hl : l.length ≤ 10000000) : Calls Try.prog 8 #[v, kv] w (RcQ zs l w) := by
  obtain ⟨a, c, rfl, hz, h | ⟨b, off, rfl, hlt, h1, h2, hc⟩⟩ := hK
  · subst h
    exact Calls.mono (r5_records_nil v l a c w hI hl) fun _ _ h => rcQ_of (zs := []) h
  · by_cases h0 : zs = []
    · subst h0
      exact Calls.mono (r5_records_nil v l _ c w hI hl) fun _ _ h => rcQ_of (zs := []) h
    · refine Calls.mono (r5_records_row v l b off c zs w hI hl (fun e => h0 (List.eq_nil_of_length_eq_zero e)) hlt hc (by omega)) fun _ _ h => rcQ_of ?_
      rw [kzs, if_neg h0]; exact h
theorem madeK (n : Nat) : (madeCells (Value.int .i64 0).cells (n * 1)).toList = List.replicate n (.int .i64 0) := by
  refine List.ext_getElem (by simp [madeCells]) fun i h1 h2 => ?_
  simp [madeCells, Value.cells, Nat.mod_one]
/-- the list of kinds of the law's own, filled as far as j -/
structure FK (wr : World) (base F n : Nat) (zs : List Int) (j : Nat) (X : List Value) : Prop where
  row : JV KT wr base (.slice (some ⟨F, 0, none⟩) (n + 8) (n + 8)) X
  len : X.length = n + 8
  ahead : ∀ i, i < j → X[i]? = some (.int .i64 (zs.getD i 0))
  rest : ∀ i, j ≤ i → i < n + 8 → X[i]? = some (.int .i64 0)
theorem FK.set {wr : World} {base F n : Nat} {zs : List Int} {j : Nat} {X : List Value} (h : FK wr base F n zs j X) (hj : j < n) : FK (wr.setCell ⟨F, j, none⟩ (.int .i64 (zs.getD j 0))) base F n zs (j + 1) (X.set j (.int .i64 (zs.getD j 0))) := by
  refine ⟨h.row.set h.len.symm rfl, by rw [List.length_set]; exact h.len, fun i hi => ?_, fun i hi hn => ?_⟩
  · by_cases e : i = j
    · subst e
      rw [List.getElem?_set_self (by rw [h.len]; omega)]
    · rw [List.getElem?_set_ne (fun q => e q.symm)]
      exact h.ahead i (by omega)
  · rw [List.getElem?_set_ne (by omega)]
    exact h.rest i (by omega) hn
theorem FK.below {wr w' : World} {base F n : Nat} {zs : List Int} {j : Nat} {X : List Value} (h : FK wr base F n zs j X) (hb : Below wr.heap.size wr w') : FK w' base F n zs j X := ⟨h.row.below hb, h.len, h.ahead, h.rest⟩
theorem FK.same {wr w' : World} {base F n : Nat} {zs : List Int} {j : Nat} {X : List Value} (h : FK wr base F n zs j X) (hb : w'.heap[F]? = wr.heap[F]?) : FK w' base F n zs j X := ⟨h.row.same fun b e => by have : F = b := (by simpa [Value.ownBlock] using e); rw [← this]; exact hb, h.len, h.ahead, h.rest⟩
theorem FK.kd {wr : World} {base F : Nat} {zs : List Int} {X : List Value} (h : FK wr base F zs.length zs zs.length X) (hz : zs.length ≤ 1048576) : KD wr (.slice (some ⟨F, 0, none⟩) zs.length (zs.length + 8)) zs := by
  obtain ⟨_, h1, h2, h3, _, h5⟩ := h.row.at
  refine ⟨_, _, rfl, hz, .inr ⟨F, 0, rfl, h3, by omega, by omega, fun i hi => ?_⟩⟩
  rw [Nat.zero_add]
  exact (h5 i _ (h.ahead i hi)).1
/-- what stands while the lists are asked for -/
structure RS5 (w : World) (N1 : Nat) (a ka : Option Addr) (c kc : Nat) (l F : List Nat) (zs : List Int) (X : List Value) (wk : World) : Prop where
  data : IsB wk (.slice a l.length c) l
  kds : KD wk (.slice ka zs.length kc) zs
  own : Buf wk w.heap.size (l.length + 8) F
  full : FK wk N1 N1 zs.length zs zs.length X
  below : Below w.heap.size w wk
theorem RS5.keep {w : World} {N1 : Nat} {a ka : Option Addr} {c kc : Nat} {l F : List Nat} {zs : List Int} {X : List Value} {wk w' : World} (h : RS5 w N1 a ka c kc l F zs X wk) (hb : Below wk.heap.size wk w') : RS5 w N1 a ka c kc l F zs X w' :=
  ⟨h.data.below hb, h.kds.below (Nat.le_refl _) hb, h.own.below h.own.2.2.1 hb, h.full.below hb, h.below.trans (hb.mono h.below.size)⟩
/-- an element of a list of what stands where -/
theorem jl_row {w : World} {base n c : Nat} {a : Option Addr} {L : List Lc} (h : JL w base (.slice a n c) (L.map lcv)) {j : Nat} {x : Lc} (hx : L[j]? = some x) : ∃ g, a = some ⟨g, 0, none⟩ ∧ ∀ k u, (lcv x)[k]? = some u → w.cell? ⟨g, j * 16 + k, none⟩ = some u := by
  have hxm : (L.map lcv)[j]? = some (lcv x) := by rw [List.getElem?_map, hx]; rfl
  obtain ⟨g, c1, hv, _, _⟩ := h.nn (by intro e; rw [e] at hxm; simp at hxm)
  injection hv with e1 _ _
  subst e1
  exact ⟨g, rfl, fun k u hu => h.at j _ k u hxm hu⟩
theorem recs_len {zs : List Int} {l : List Nat} (hb : Byt l) : (recs zs l).length ≤ l.length := by
  have h := locs_len hb _ (Nat.le_refl _) 0
  have h2 : (recs zs l).length ≤ (locs 0 l).length := List.length_filter_le _ _
  omega
theorem jl_rowN {w : World} {base n c : Nat} {a : Option Addr} {L : List Lc} (h : JL w base (.slice a n c) (L.map lcv)) {j : Nat} {x : Lc} (hx : L[j]? = some x) : ∃ g, a = some ⟨g, 0, none⟩ ∧ ∀ nn, (w.drewN nn).rangeAt g (j * 16) (lcv x) := by
  obtain ⟨g, e, hr⟩ := jl_row h hx
  exact ⟨g, e, fun nn k u hu => hr k u hu⟩
theorem four_rl {w : World} {base : Nat} {a b c d : Value} {x y : List (List Value)} (h0 : JL w base a x) (h1 : JL w base b x) (h2 : JL w base c y) (h3 : JL w base d x) (ab : ∀ g, a.ownBlock = some g → b.ownBlock ≠ some g) (ac : ∀ g, a.ownBlock = some g → c.ownBlock ≠ some g) (ad : ∀ g, a.ownBlock = some g → d.ownBlock ≠ some g) (bc : ∀ g, b.ownBlock = some g → c.ownBlock ≠ some g) (bd : ∀ g, b.ownBlock = some g → d.ownBlock ≠ some g) (cd : ∀ g, c.ownBlock = some g → d.ownBlock ≠ some g) :
    RSR LT 16 w base [a, b, c, d] (fun t => if t = 2 then y else x) := by
  have four : ∀ i, i < [a, b, c, d].length → i = 0 ∨ i = 1 ∨ i = 2 ∨ i = 3 := fun i hi => by simp at hi; omega
  refine ⟨fun i hi => ?_, fun i j g hi hj hij hg hq => ?_⟩
  · rcases four i hi with rfl | rfl | rfl | rfl
    · exact h0
    · exact h1
    · exact h2
    · exact h3
  · rcases four i hi with rfl | rfl | rfl | rfl <;> rcases four j hj with rfl | rfl | rfl | rfl
    · exact hij rfl
    · exact ab g hg hq
    · exact ac g hg hq
    · exact ad g hg hq
    · exact ab g hq hg
    · exact hij rfl
    · exact bc g hg hq
    · exact bd g hg hq
    · exact ac g hq hg
    · exact bc g hq hg
    · exact hij rfl
    · exact cd g hg hq
    · exact ad g hq hg
    · exact bd g hq hg
    · exact cd g hq hg
    · exact hij rfl
theorem lr_apart2 {E : TypeId} {sz : Nat} {w2 : World} {n b2 : Nat} {v1 v2 : Value} {x2 : List (List Value)} (h1 : ∀ b, v1.ownBlock = some b → b < n) (h2 : JR E sz w2 b2 v2 x2) (h : n ≤ b2) : ∀ g, v1.ownBlock = some g → v2.ownBlock ≠ some g := by
  intro g e1 e2
  have := h1 g e1
  have := h2.blk_ge g e2
  omega
theorem lr_apart3 {E : TypeId} {sz : Nat} {w2 : World} {n b2 : Nat} {v1 v2 : Value} {x2 : List (List Value)} (h1 : ∀ b, v1.ownBlock = some b → b < n) (h2 : JR E sz w2 b2 v2 x2) (h : n ≤ b2) : ∀ g, v2.ownBlock = some g → v1.ownBlock ≠ some g := fun g e1 e2 => lr_apart2 h1 h2 h g e2 e1
theorem RS5.keepB {w : World} {N1 n : Nat} {a ka : Option Addr} {c kc : Nat} {l F : List Nat} {zs : List Int} {X : List Value} {wk w' : World} (h : RS5 w N1 a ka c kc l F zs X wk) (hI : IsB w (.slice a l.length c) l) (hK : KD w (.slice ka zs.length kc) zs) (hw : w.heap.size < n) (hN : N1 < n) (hb : Below n wk w') : RS5 w N1 a ka c kc l F zs X w' := by
  have hB : Below w.heap.size w w' := h.below.trans (hb.mono (Nat.le_of_lt hw))
  exact ⟨hI.below hB, hK.below (Nat.le_refl _) hB, h.own.below hw hb, h.full.same (hb.block _ hN), hB⟩
theorem lists_newL (w : World) (base m : Nat) (a b c d : Value) (hm : w.heap.size = m) (hb : base ≤ m) (h1 : ∀ u ∈ [a, b, c, d], u.oneCell' = true) : JV LLS (w.alloc (.cells #[a, b, c, d] LLS)) base (.slice (some ⟨m, 0, none⟩) 4 4) [a, b, c, d] := by
  subst hm
  have hblk : Blk (w.alloc (.cells #[a, b, c, d] LLS)) w.heap.size LLS [a, b, c, d] := Blk.new w LLS [a, b, c, d]
  exact ⟨h1, rfl, .inr ⟨w.heap.size, 4, #[a, b, c, d], rfl, hb, hblk, by simp, by simp [maxLen], rfl, rfl⟩⟩
set_option pp.maxSteps 1000000 in
set_option maxRecDepth 100000 in
set_option maxHeartbeats 40000000 in
theorem records_walk (v : Value) (l : List Nat) (kv : Value) (zs : List Int) (w : World) (hI : IsB w v l) (hK : KD w kv zs) (hm : l.length ≤ 1048576) :
    Calls Try.prog 3 #[v, kv] w fun e w' => e = .returned (.bool true) ∧ Below w.heap.size w w' := by
  obtain ⟨a, c, rfl⟩ := hI.shape
  obtain ⟨ka, kc, rfl, hzl, hkd⟩ := hK
  have HI := hd hI
  have HK : Hid (KD w (.slice ka zs.length kc) zs) := ⟨ka, kc, rfl, hzl, hkd⟩
  clear hI hkd
  have hmx : Try.prog.follows .mixedOrders = true := by kernel_rfl
  go_enter Try.func3, Try.ntmps3
  go_wp2_with fail
  refine Calls.mono (lent_is _ l w HI.out (by omega)) ?_
  rintro e w1 ⟨rfl, j1, b1⟩
  have HGB := hd j1.buf
  have HB1 := hd b1
  have HI1 := hd (HI.out.below b1)
  have HK1 := hd (HK.out.below (Nat.le_refl _) b1)
  have hgw : w.heap.size < w1.heap.size := j1.buf.2.2.1
  clear j1 b1
  obtain ⟨i0, hi, hz0, hz1, hz2⟩ := info_parts info_kt
  go_wp2_with (at_make; refine wpList_make_full _ rfl _ _ 23 rfl w1.heap.size 25 i0 (.int .i64 0) 1 Try.underlying23 hi hz0 hz1 .i64 .i64 ((zs.length : Int) + 8) ((zs.length : Int) + 8) (zs.length + 8) rfl rfl rfl rfl (by rw [hz2]; omega) (by unfold maxLen; omega) (Nat.le_refl _) ?_; intro w2 hown hgrow)
  have HB2 : Hid (Below w1.heap.size w1 w2) := (Below.refl _ _).grown hgrow (Nat.le_refl _) (fun k hk => by cases hk)
  have HO2 : Hid (FK w2 w1.heap.size w1.heap.size zs.length zs 0 (List.replicate (zs.length + 8) (.int .i64 0))) := by
    refine ⟨⟨fun u hu => by rw [List.eq_of_mem_replicate hu]; rfl, ?_⟩, by simp, fun i hi => by omega, fun i _ hi => by simp [hi]⟩
    rw [madeK] at hown
    rw [List.length_replicate]; exact hown
  clear hown hgrow hi hz0 hz1 hz2
  go_loopw [7] (fun x wr => ∃ (j : Nat) (X : List Value), j ≤ zs.length ∧ x = .int .i64 (j : Int) ∧ FK wr w1.heap.size w1.heap.size zs.length zs j X ∧ Below w1.heap.size w1 wr) (fun x _ => zs.length - (intOf x).toNat)
  case atStart => exact ⟨0, _, by omega, rfl, HO2.out, HB2.out⟩
  case round =>
    obtain ⟨j, X, hj, rfl, hF, hB⟩ := hrel
    have HF := hd hF
    have HBR := hd hB
    have hws := hB.size
    clear hF hB HO2 HB2
    by_cases hlt : j < zs.length
    · have hji : ((j : Nat) : Int) < (zs.length : Int) := by omega
      have HLT : Hid (j + 1 ≤ zs.length) := hlt
      have hKr := HK1.out.below (Nat.le_refl _) HBR.out
      obtain ⟨a', c', e', _, h | ⟨kb, koff, e2, hkb, hk1, hk2, hkc⟩⟩ := hKr
      · rw [h] at hlt; simp at hlt
      injection e' with e3 e4 e5
      subst e5 e3 e2
      clear e4
      have hkj := hkc j hlt
      have hfc := (HF.out.row.at).2.2.2.2.2
      obtain ⟨hf1, hf2⟩ := hfc j _ (HF.out.rest j (Nat.le_refl _) (by omega))
      have HNX := hd (HF.out.set hlt)
      have HBN := hd (HBR.out.setCell (p := ⟨w1.heap.size, j, none⟩) (Nat.le_refl _) (.int .i64 (zs.getD j 0)))
      generalize zs.getD j 0 = zj at *
      unfold maxLen at hk2
      clear hfc hkc hj
      go_wp2_with fail
      exact ⟨⟨j + 1, _, HLT.out, by go_num, HNX.out, HBN.out⟩, by have := HLT.out; simp [intOf]; omega⟩
    · have hji : ¬ ((j : Nat) : Int) < (zs.length : Int) := by omega
      have e : j = zs.length := by omega
      subst e
      clear hlt hj
      have hgF : w.heap.size < wr.heap.size := by omega
      have HS3 : Hid (RS5 w w1.heap.size a ka c kc l (mk8 l) zs X wr) := ⟨HI1.out.below HBR.out, HK1.out.below (Nat.le_refl _) HBR.out, HGB.out.below hgw HBR.out, HF.out, HB1.out.trans (HBR.out.mono HB1.out.size)⟩
      have hw3 : w1.heap.size < wr.heap.size := (HF.out.row.at).2.2.2.1
      obtain ⟨w3, hw3e⟩ : ∃ w3, w3 = wr := ⟨_, rfl⟩
      subst hw3e
      clear HF HBR HI1 HK1 HB1 HGB
      go_wp2_with fail
      refine Calls.mono (recordsQ _ l _ zs w3 (lent_isB HS3.out.own) (HS3.out.full.kd hzl) (by omega)) ?_
      rintro e w4 ⟨⟨ax, cx, rfl, hcx, jx⟩, bx⟩
      have HS4 := hd (HS3.out.keep bx)
      have Lx : Hid (∀ b, (Value.slice ax (recs (kzs zs) l).length cx).ownBlock = some b → b < w4.heap.size) := fun b hb => jx.blk_lt b hb
      have Jx := hd jx
      have hzx := bx.size
      clear jx bx HS3
      go_wp2_with fail
      refine Calls.mono (recordsQ _ l _ zs w4 (lent_isB HS4.out.own) (HS4.out.full.kd hzl) (by omega)) ?_
      rintro e w5 ⟨⟨an, cn, rfl, hcn, jn⟩, bn⟩
      have HS5 := hd (HS4.out.keep bn)
      have Jx := hd (Jx.out.keepAll bn)
      have Ln : Hid (∀ b, (Value.slice an (recs (kzs zs) l).length cn).ownBlock = some b → b < w5.heap.size) := fun b hb => jn.blk_lt b hb
      have Jn := hd jn
      have hzn := bn.size
      clear jn bn HS4
      go_wp2_with fail
      refine Calls.mono (rrecordsQ _ l _ zs w5 HS5.out.data HS5.out.kds (by omega)) ?_
      rintro e w6 ⟨⟨am, cm, rfl, hcm, jm⟩, bm⟩
      have HS6 := hd (HS5.out.keep bm)
      have Jx := hd (Jx.out.keepAll bm)
      have Jn := hd (Jn.out.keepAll bm)
      have Lm : Hid (∀ b, (Value.slice am (recs (kzs zs) l).length cm).ownBlock = some b → b < w6.heap.size) := fun b hb => jm.blk_lt b hb
      have Jm := hd jm
      have hzm := bm.size
      clear jm bm HS5
      go_wp2_with fail
      refine Calls.mono (skept_is _ _ _ l w6 HS6.out.own HS6.out.data) ?_
      rintro e w7 ⟨rfl, nk, rfl⟩
      have HS7 := hd (HS6.out.keep (below_drewN (Below.refl _ _) nk))
      clear HS6
      go_wp2_with fail
      obtain ⟨L, hLe⟩ : ∃ L, recs (kzs zs) l = L := ⟨_, rfl⟩
      have hLl : L.length ≤ l.length := by rw [← hLe]; exact recs_len HS7.out.data.1
      rw [hLe] at Jx Jn Jm Lx Ln Lm hcx hcn hcm ⊢
      have HLE := hd hLe
      clear hLe
      obtain ⟨w8, hw8⟩ : ∃ w8, w8 = w6.drewN nk := ⟨_, rfl⟩
      have Jx := hd (Jx.out.drewN nk)
      have Jn := hd (Jn.out.drewN nk)
      have Jm := hd (Jm.out.drewN nk)
      have hs86 : w6.heap.size ≤ w8.heap.size := by rw [hw8]; exact (below_drewN (Below.refl w6.heap.size w6) nk).size
      rw [← hw8] at HS7 Jx Jn Jm ⊢
      clear hw8
      go_loopw [11] (fun x wr => ∃ (j n : Nat), j ≤ zs.length + 8 ∧ x = .int .i64 (j : Int) ∧ wr = w8.drewN n) (fun x _ => zs.length + 8 - (intOf x).toNat)
      case atStart => exact ⟨0, 0, by omega, rfl, rfl⟩
      case round =>
        obtain ⟨j, n, hj, rfl, rfl⟩ := hrel
        by_cases hlt : j < zs.length + 8
        · have hji : ((j : Nat) : Int) < (zs.length : Int) + 8 := by omega
          have HLT : Hid (j + 1 ≤ zs.length + 8) := hlt
          have hfc := (HS7.out.full.row.at).2.2.2.2.2
          by_cases hk : j < zs.length
          · have hjk : ((j : Nat) : Int) < (zs.length : Int) := by omega
            have hjk2 : decide (zs.length ≤ j) = false := decide_eq_false (by omega)
            obtain ⟨a', c', e', _, h | ⟨kb, koff, e2, hkb, hk1, hk2, hkc⟩⟩ := HS7.out.kds
            · rw [h] at hk; simp at hk
            injection e' with e3 e4 e5
            subst e5 e3 e2
            clear e4
            have hkj := hkc j hk
            have hf1 := (hfc j _ (HS7.out.full.ahead j hk)).1
            generalize zs.getD j 0 = zj at *
            unfold maxLen at hk2
            clear hfc hkc hj
            go_wp2_with fail
            go_quiet (fail)
            go_wp2_with fail
            go_roundw
            case rel => exact ⟨j + 1, _, HLT.out, by go_num, rfl⟩
            case measure => have := HLT.out; simp [intOf]; omega
          · have hjk : decide (((j : Nat) : Int) < (zs.length : Int)) = false := decide_eq_false (by omega)
            have hjk2 : (zs.length : Int) ≤ ((j : Nat) : Int) := by omega
            have hf1 := (hfc j _ (HS7.out.full.rest j (by omega) hlt)).1
            clear hfc hj
            go_wp2_with fail
            go_quiet (fail)
            go_wp2_with fail
            go_roundw
            case rel => exact ⟨j + 1, _, HLT.out, by go_num, rfl⟩
            case measure => have := HLT.out; simp [intOf]; omega
        · have hji : ¬ ((j : Nat) : Int) < (zs.length : Int) + 8 := by omega
          obtain rfl : j = zs.length + 8 := by omega
          clear hj hlt
          have HS8 := hd (HS7.out.keep (below_drewN (Below.refl _ _) n))
          have Jx := hd (Jx.out.drewN n)
          have Jn := hd (Jn.out.drewN n)
          have Jm := hd (Jm.out.drewN n)
          have hs96 : w6.heap.size ≤ (w8.drewN n).heap.size := Nat.le_trans hs86 (below_drewN (Below.refl w8.heap.size w8) n).size
          obtain ⟨w9, hw9⟩ : ∃ w9, w9 = w8.drewN n := ⟨_, rfl⟩
          rw [← hw9] at HS8 Jx Jn Jm hs96 ⊢
          clear hw9 HS7
          go_wp2_with fail
          refine Calls.mono (recordsQ _ l _ [] w9 (lent_isB HS8.out.own) (show KD w9 (.slice none 0 0) [] from ⟨none, 0, rfl, by simp, .inl rfl⟩) (by omega)) ?_
          rintro e w10 ⟨⟨ao, co, rfl, hco, jo⟩, bo⟩
          obtain ⟨M, hMe⟩ : ∃ M, recs (kzs []) l = M := ⟨_, rfl⟩
          have hMl : M.length ≤ l.length := by rw [← hMe]; exact recs_len HS8.out.data.1
          rw [hMe] at jo hco ⊢
          have HME := hd hMe
          clear hMe
          have HS10 := hd (HS8.out.keep bo)
          have Jx := hd (Jx.out.keepAll bo)
          have Jn := hd (Jn.out.keepAll bo)
          have Jm := hd (Jm.out.keepAll bo)
          have Lo : Hid (∀ b, (Value.slice ao M.length co).ownBlock = some b → b < w10.heap.size) := fun b hb => jo.blk_lt b hb
          have Jo := hd jo
          have hzo := bo.size
          clear jo bo HS8
          go_wp2_with fail
          refine Calls.mono (recordsQ _ l _ zs w10 (lent_isB HS10.out.own) (HS10.out.full.kd hzl) (by omega)) ?_
          rintro e w11 ⟨⟨aq, cq, rfl, hcq, jq⟩, bq⟩
          rw [HLE.out] at jq hcq ⊢
          have HS11 := hd (HS10.out.keep bq)
          have Jx := hd (Jx.out.keepAll bq)
          have Jn := hd (Jn.out.keepAll bq)
          have Jm := hd (Jm.out.keepAll bq)
          have Jo := hd (Jo.out.keepAll bq)
          have Lq : Hid (∀ b, (Value.slice aq L.length cq).ownBlock = some b → b < w11.heap.size) := fun b hb => jq.blk_lt b hb
          have Jq := hd jq
          have hzq := bq.size
          clear jq bq HS10
          go_wp2_with fail
          go_loopw [14] (fun x wr => ∃ (j n : Nat), j ≤ L.length ∧ x = .int .i64 (j : Int) ∧ wr = w11.drewN n) (fun x _ => L.length - (intOf x).toNat)
          case atStart => exact ⟨0, 0, by omega, rfl, rfl⟩
          case round =>
            obtain ⟨j, n, hj, rfl, rfl⟩ := hrel
            by_cases hlt : j < L.length
            · have hji : ((j : Nat) : Int) < (L.length : Int) := by omega
              have HLT : Hid (j + 1 ≤ L.length) := hlt
              obtain ⟨x, hx⟩ : ∃ x, L[j]? = some x := ⟨_, List.getElem?_eq_getElem hlt⟩
              have hne : ∀ ww, (binOp .neq 43 (.agg (lcv x).toArray) (.agg (lcv x).toArray)).run Try.prog ww = .ok (.bool false) ww := fun ww => neq_lc x ww
              obtain ⟨gJx, haJx, hrJx⟩ := jl_rowN Jx.out hx
              subst haJx
              obtain ⟨gJm, haJm, hrJm⟩ := jl_rowN Jm.out hx
              subst haJm
              obtain ⟨gJq, haJq, hrJq⟩ := jl_rowN Jq.out hx
              subst haJq
              obtain ⟨gJn, haJn, hrJn⟩ := jl_rowN Jn.out hx
              subst haJn
              clear hj hx
              go_wp2_with fail
              refine region_skip (fun i9 v9 _ => match i9 with
                  | 0 => v9 = Value.slice (some { block := gJx, off := 0 }) L.length cx
                  | 1 => v9 = Value.int IntKind.i64 ((j : Nat) : Int)
                  | 2 => v9 = .pointer (some ⟨gJx, j * 16, none⟩)
                  | 3 => v9 = .agg (lcv x).toArray
                  | 4 => v9 = Value.slice (some { block := gJm, off := 0 }) L.length cm
                  | 5 => v9 = Value.int IntKind.i64 ((j : Nat) : Int)
                  | 6 => v9 = .pointer (some ⟨gJm, j * 16, none⟩)
                  | 7 => v9 = .agg (lcv x).toArray
                  | 8 => v9 = .bool false
                  | 9 => v9 = .bool false
                  | 10 => v9 = Value.slice (some { block := gJq, off := 0 }) L.length cq
                  | 11 => v9 = Value.int IntKind.i64 ((j : Nat) : Int)
                  | 12 => v9 = .pointer (some ⟨gJq, j * 16, none⟩)
                  | 13 => v9 = .agg (lcv x).toArray
                  | 14 => v9 = Value.slice (some { block := gJm, off := 0 }) L.length cm
                  | 15 => v9 = Value.int IntKind.i64 ((j : Nat) : Int)
                  | 16 => v9 = .pointer (some ⟨gJm, j * 16, none⟩)
                  | 17 => v9 = .agg (lcv x).toArray
                  | 18 => v9 = .bool false
                  | 19 => v9 = .bool false
                  | 20 => v9 = .bool false
                  | 21 => v9 = Value.slice (some { block := gJn, off := 0 }) L.length cn
                  | 22 => v9 = Value.int IntKind.i64 ((j : Nat) : Int)
                  | 23 => v9 = .pointer (some ⟨gJn, j * 16, none⟩)
                  | 24 => v9 = .agg (lcv x).toArray
                  | 25 => v9 = Value.slice (some { block := gJm, off := 0 }) L.length cm
                  | 26 => v9 = Value.int IntKind.i64 ((j : Nat) : Int)
                  | 27 => v9 = .pointer (some ⟨gJm, j * 16, none⟩)
                  | 28 => v9 = .agg (lcv x).toArray
                  | 29 => v9 = .bool false
                  | _ => v9 = .bool false) (fun w => ∃ nn, w = w11.drewN nn) hmx (by kernel_rfl) (by kernel_rfl) ⟨n + 1, rfl⟩ ?_ ?_ ?_
              · as_aux_lemma =>
                  intro i9 v9 w8 w9 _ _ hb hG
                  match i9, hG with
                  | 0, h => exact h
                  | 1, h => exact h
                  | 2, h => exact h
                  | 3, h => exact h
                  | 4, h => exact h
                  | 5, h => exact h
                  | 6, h => exact h
                  | 7, h => exact h
                  | 8, h => exact h
                  | 9, h => exact h
                  | 10, h => exact h
                  | 11, h => exact h
                  | 12, h => exact h
                  | 13, h => exact h
                  | 14, h => exact h
                  | 15, h => exact h
                  | 16, h => exact h
                  | 17, h => exact h
                  | 18, h => exact h
                  | 19, h => exact h
                  | 20, h => exact h
                  | 21, h => exact h
                  | 22, h => exact h
                  | 23, h => exact h
                  | 24, h => exact h
                  | 25, h => exact h
                  | 26, h => exact h
                  | 27, h => exact h
                  | 28, h => exact h
                  | 29, h => exact h
                  | n + 30, h => exact h
              · as_aux_lemma =>
                  intro i9 o9 ho a9 w9 hW hdf hsz hout haf
                  have ee8 := getq (show a9.tmps.getD 8 undef = Value.slice (some { block := gJx, off := 0 }) L.length cx from hout 8 (notDst_spec (by kernel_rfl)))
                  have ee9 := getq (show a9.tmps.getD 9 undef = Value.slice (some { block := gJn, off := 0 }) L.length cn from hout 9 (notDst_spec (by kernel_rfl)))
                  have ee10 := getq (show a9.tmps.getD 10 undef = Value.slice (some { block := gJm, off := 0 }) L.length cm from hout 10 (notDst_spec (by kernel_rfl)))
                  have ee13 := getq (show a9.tmps.getD 13 undef = Value.slice (some { block := gJq, off := 0 }) L.length cq from hout 13 (notDst_spec (by kernel_rfl)))
                  have ee14 := getq (show a9.tmps.getD 14 undef = Value.int IntKind.i64 ((j : Nat) : Int) from hout 14 (notDst_spec (by kernel_rfl)))
                  have hsz2 : a9.tmps.size = 245 := hsz
                  clear hout hsz hdf
                  match i9, ho, haf with
                  | 0, ho, haf =>
                    obtain rfl := Option.some.inj ho
                    refine skip_good _ (wanted_none rfl) ?_
                    clear haf ho hsz2
                    intro K hK
                    simp only [List.getElem_toArray, List.getElem_cons_zero] at hK ⊢
                    obtain ⟨nn, rfl⟩ := hW
                    go_simp
                    exact hK _ _ ⟨Below.refl _ _, ⟨nn, rfl⟩, rfl⟩
                  | 1, ho, haf =>
                    obtain rfl := Option.some.inj ho
                    refine skip_good _ (wanted_none rfl) ?_
                    clear haf ho hsz2
                    intro K hK
                    simp only [List.getElem_toArray, List.getElem_cons_succ, List.getElem_cons_zero] at hK ⊢
                    obtain ⟨nn, rfl⟩ := hW
                    go_simp
                    exact hK _ _ ⟨Below.refl _ _, ⟨nn, rfl⟩, rfl⟩
                  | 2, ho, haf =>
                    obtain rfl := Option.some.inj ho
                    have f0 := getq (show a9.tmps.getD 127 undef = Value.slice (some { block := gJx, off := 0 }) L.length cx from haf ⟨0, .data⟩ (by simp) rfl)
                    have f1 := getq (show a9.tmps.getD 128 undef = Value.int IntKind.i64 ((j : Nat) : Int) from haf ⟨1, .data⟩ (by simp) rfl)
                    refine skip_good _ (wanted_none rfl) ?_
                    clear haf ho hsz2
                    intro K hK
                    simp only [List.getElem_toArray, List.getElem_cons_succ, List.getElem_cons_zero] at hK ⊢
                    obtain ⟨nn, rfl⟩ := hW
                    go_simp
                    exact hK _ _ ⟨Below.refl _ _, ⟨nn, rfl⟩, rfl⟩
                  | 3, ho, haf =>
                    obtain rfl := Option.some.inj ho
                    have f2 := getq (show a9.tmps.getD 129 undef = .pointer (some ⟨gJx, j * 16, none⟩) from haf ⟨2, .data⟩ (by simp) rfl)
                    refine skip_good _ (wanted_none rfl) ?_
                    have hx0 : a9.eval (Operand.tmp 129) = .pointer (some ⟨gJx, j * 16, none⟩) := haf ⟨2, .data⟩ (by simp) rfl
                    clear haf ho hsz2
                    intro K hK
                    simp only [List.getElem_toArray, List.getElem_cons_succ, List.getElem_cons_zero] at hK ⊢
                    obtain ⟨nn, rfl⟩ := hW
                    exact wp_load_mid 43 _ rfl gJx (j * 16) hx0 (lcv x) _ (hrJx nn) Try.underlying43 rfl (by kernel_rfl) (hK _ _ ⟨Below.refl _ _, ⟨nn, rfl⟩, rfl⟩)
                  | 4, ho, haf =>
                    obtain rfl := Option.some.inj ho
                    refine skip_good _ (wanted_none rfl) ?_
                    clear haf ho hsz2
                    intro K hK
                    simp only [List.getElem_toArray, List.getElem_cons_succ, List.getElem_cons_zero] at hK ⊢
                    obtain ⟨nn, rfl⟩ := hW
                    go_simp
                    exact hK _ _ ⟨Below.refl _ _, ⟨nn, rfl⟩, rfl⟩
                  | 5, ho, haf =>
                    obtain rfl := Option.some.inj ho
                    refine skip_good _ (wanted_none rfl) ?_
                    clear haf ho hsz2
                    intro K hK
                    simp only [List.getElem_toArray, List.getElem_cons_succ, List.getElem_cons_zero] at hK ⊢
                    obtain ⟨nn, rfl⟩ := hW
                    go_simp
                    exact hK _ _ ⟨Below.refl _ _, ⟨nn, rfl⟩, rfl⟩
                  | 6, ho, haf =>
                    obtain rfl := Option.some.inj ho
                    have f4 := getq (show a9.tmps.getD 131 undef = Value.slice (some { block := gJm, off := 0 }) L.length cm from haf ⟨4, .data⟩ (by simp) rfl)
                    have f5 := getq (show a9.tmps.getD 132 undef = Value.int IntKind.i64 ((j : Nat) : Int) from haf ⟨5, .data⟩ (by simp) rfl)
                    refine skip_good _ (wanted_none rfl) ?_
                    clear haf ho hsz2
                    intro K hK
                    simp only [List.getElem_toArray, List.getElem_cons_succ, List.getElem_cons_zero] at hK ⊢
                    obtain ⟨nn, rfl⟩ := hW
                    go_simp
                    exact hK _ _ ⟨Below.refl _ _, ⟨nn, rfl⟩, rfl⟩
                  | 7, ho, haf =>
                    obtain rfl := Option.some.inj ho
                    have f6 := getq (show a9.tmps.getD 133 undef = .pointer (some ⟨gJm, j * 16, none⟩) from haf ⟨6, .data⟩ (by simp) rfl)
                    refine skip_good _ (wanted_none rfl) ?_
                    have hx0 : a9.eval (Operand.tmp 133) = .pointer (some ⟨gJm, j * 16, none⟩) := haf ⟨6, .data⟩ (by simp) rfl
                    clear haf ho hsz2
                    intro K hK
                    simp only [List.getElem_toArray, List.getElem_cons_succ, List.getElem_cons_zero] at hK ⊢
                    obtain ⟨nn, rfl⟩ := hW
                    exact wp_load_mid 43 _ rfl gJm (j * 16) hx0 (lcv x) _ (hrJm nn) Try.underlying43 rfl (by kernel_rfl) (hK _ _ ⟨Below.refl _ _, ⟨nn, rfl⟩, rfl⟩)
                  | 8, ho, haf =>
                    obtain rfl := Option.some.inj ho
                    have f3 := getq (show a9.tmps.getD 130 undef = .agg (lcv x).toArray from haf ⟨3, .data⟩ (by simp) rfl)
                    have f7 := getq (show a9.tmps.getD 134 undef = .agg (lcv x).toArray from haf ⟨7, .data⟩ (by simp) rfl)
                    refine skip_good _ (wanted_none rfl) ?_
                    clear haf ho hsz2
                    intro K hK
                    simp only [List.getElem_toArray, List.getElem_cons_succ, List.getElem_cons_zero] at hK ⊢
                    obtain ⟨nn, rfl⟩ := hW
                    go_simp
                    exact hK _ _ ⟨Below.refl _ _, ⟨nn, rfl⟩, rfl⟩
                  | 9, ho, haf =>
                    obtain rfl := Option.some.inj ho
                    have f8 := getq (show a9.tmps.getD 135 undef = .bool false from haf ⟨8, .data⟩ (by simp) rfl)
                    refine skip_good _ (wanted_none rfl) ?_
                    clear haf ho hsz2
                    intro K hK
                    simp only [List.getElem_toArray, List.getElem_cons_succ, List.getElem_cons_zero] at hK ⊢
                    obtain ⟨nn, rfl⟩ := hW
                    go_simp
                    exact hK _ _ ⟨Below.refl _ _, ⟨nn, rfl⟩, rfl⟩
                  | 10, ho, haf =>
                    obtain rfl := Option.some.inj ho
                    have gg : a9.tmps.getD 136 undef = .bool false := haf ⟨9, .guard⟩ (by simp) rfl
                    refine skip_good _ (wanted_some rfl (yielded_of (d := 136) rfl (by omega) gg)) ?_
                    clear haf ho hsz2 gg
                    intro K hK
                    simp only [List.getElem_toArray, List.getElem_cons_succ, List.getElem_cons_zero] at hK ⊢
                    obtain ⟨nn, rfl⟩ := hW
                    go_simp
                    exact hK _ _ ⟨Below.refl _ _, ⟨nn, rfl⟩, rfl⟩
                  | 11, ho, haf =>
                    obtain rfl := Option.some.inj ho
                    have gg : a9.tmps.getD 136 undef = .bool false := haf ⟨9, .guard⟩ (by simp) rfl
                    refine skip_good _ (wanted_some rfl (yielded_of (d := 136) rfl (by omega) gg)) ?_
                    clear haf ho hsz2 gg
                    intro K hK
                    simp only [List.getElem_toArray, List.getElem_cons_succ, List.getElem_cons_zero] at hK ⊢
                    obtain ⟨nn, rfl⟩ := hW
                    go_simp
                    exact hK _ _ ⟨Below.refl _ _, ⟨nn, rfl⟩, rfl⟩
                  | 12, ho, haf =>
                    obtain rfl := Option.some.inj ho
                    have gg : a9.tmps.getD 136 undef = .bool false := haf ⟨9, .guard⟩ (by simp) rfl
                    have f10 := getq (show a9.tmps.getD 137 undef = Value.slice (some { block := gJq, off := 0 }) L.length cq from haf ⟨10, .data⟩ (by simp) rfl)
                    have f11 := getq (show a9.tmps.getD 138 undef = Value.int IntKind.i64 ((j : Nat) : Int) from haf ⟨11, .data⟩ (by simp) rfl)
                    refine skip_good _ (wanted_some rfl (yielded_of (d := 136) rfl (by omega) gg)) ?_
                    clear haf ho hsz2 gg
                    intro K hK
                    simp only [List.getElem_toArray, List.getElem_cons_succ, List.getElem_cons_zero] at hK ⊢
                    obtain ⟨nn, rfl⟩ := hW
                    go_simp
                    exact hK _ _ ⟨Below.refl _ _, ⟨nn, rfl⟩, rfl⟩
                  | 13, ho, haf =>
                    obtain rfl := Option.some.inj ho
                    have gg : a9.tmps.getD 136 undef = .bool false := haf ⟨9, .guard⟩ (by simp) rfl
                    have f12 := getq (show a9.tmps.getD 139 undef = .pointer (some ⟨gJq, j * 16, none⟩) from haf ⟨12, .data⟩ (by simp) rfl)
                    refine skip_good _ (wanted_some rfl (yielded_of (d := 136) rfl (by omega) gg)) ?_
                    have hx0 : a9.eval (Operand.tmp 139) = .pointer (some ⟨gJq, j * 16, none⟩) := haf ⟨12, .data⟩ (by simp) rfl
                    clear haf ho hsz2 gg
                    intro K hK
                    simp only [List.getElem_toArray, List.getElem_cons_succ, List.getElem_cons_zero] at hK ⊢
                    obtain ⟨nn, rfl⟩ := hW
                    exact wp_load_mid 43 _ rfl gJq (j * 16) hx0 (lcv x) _ (hrJq nn) Try.underlying43 rfl (by kernel_rfl) (hK _ _ ⟨Below.refl _ _, ⟨nn, rfl⟩, rfl⟩)
                  | 14, ho, haf =>
                    obtain rfl := Option.some.inj ho
                    have gg : a9.tmps.getD 136 undef = .bool false := haf ⟨9, .guard⟩ (by simp) rfl
                    refine skip_good _ (wanted_some rfl (yielded_of (d := 136) rfl (by omega) gg)) ?_
                    clear haf ho hsz2 gg
                    intro K hK
                    simp only [List.getElem_toArray, List.getElem_cons_succ, List.getElem_cons_zero] at hK ⊢
                    obtain ⟨nn, rfl⟩ := hW
                    go_simp
                    exact hK _ _ ⟨Below.refl _ _, ⟨nn, rfl⟩, rfl⟩
                  | 15, ho, haf =>
                    obtain rfl := Option.some.inj ho
                    have gg : a9.tmps.getD 136 undef = .bool false := haf ⟨9, .guard⟩ (by simp) rfl
                    refine skip_good _ (wanted_some rfl (yielded_of (d := 136) rfl (by omega) gg)) ?_
                    clear haf ho hsz2 gg
                    intro K hK
                    simp only [List.getElem_toArray, List.getElem_cons_succ, List.getElem_cons_zero] at hK ⊢
                    obtain ⟨nn, rfl⟩ := hW
                    go_simp
                    exact hK _ _ ⟨Below.refl _ _, ⟨nn, rfl⟩, rfl⟩
                  | 16, ho, haf =>
                    obtain rfl := Option.some.inj ho
                    have gg : a9.tmps.getD 136 undef = .bool false := haf ⟨9, .guard⟩ (by simp) rfl
                    have f14 := getq (show a9.tmps.getD 141 undef = Value.slice (some { block := gJm, off := 0 }) L.length cm from haf ⟨14, .data⟩ (by simp) rfl)
                    have f15 := getq (show a9.tmps.getD 142 undef = Value.int IntKind.i64 ((j : Nat) : Int) from haf ⟨15, .data⟩ (by simp) rfl)
                    refine skip_good _ (wanted_some rfl (yielded_of (d := 136) rfl (by omega) gg)) ?_
                    clear haf ho hsz2 gg
                    intro K hK
                    simp only [List.getElem_toArray, List.getElem_cons_succ, List.getElem_cons_zero] at hK ⊢
                    obtain ⟨nn, rfl⟩ := hW
                    go_simp
                    exact hK _ _ ⟨Below.refl _ _, ⟨nn, rfl⟩, rfl⟩
                  | 17, ho, haf =>
                    obtain rfl := Option.some.inj ho
                    have gg : a9.tmps.getD 136 undef = .bool false := haf ⟨9, .guard⟩ (by simp) rfl
                    have f16 := getq (show a9.tmps.getD 143 undef = .pointer (some ⟨gJm, j * 16, none⟩) from haf ⟨16, .data⟩ (by simp) rfl)
                    refine skip_good _ (wanted_some rfl (yielded_of (d := 136) rfl (by omega) gg)) ?_
                    have hx0 : a9.eval (Operand.tmp 143) = .pointer (some ⟨gJm, j * 16, none⟩) := haf ⟨16, .data⟩ (by simp) rfl
                    clear haf ho hsz2 gg
                    intro K hK
                    simp only [List.getElem_toArray, List.getElem_cons_succ, List.getElem_cons_zero] at hK ⊢
                    obtain ⟨nn, rfl⟩ := hW
                    exact wp_load_mid 43 _ rfl gJm (j * 16) hx0 (lcv x) _ (hrJm nn) Try.underlying43 rfl (by kernel_rfl) (hK _ _ ⟨Below.refl _ _, ⟨nn, rfl⟩, rfl⟩)
                  | 18, ho, haf =>
                    obtain rfl := Option.some.inj ho
                    have gg : a9.tmps.getD 136 undef = .bool false := haf ⟨9, .guard⟩ (by simp) rfl
                    have f13 := getq (show a9.tmps.getD 140 undef = .agg (lcv x).toArray from haf ⟨13, .data⟩ (by simp) rfl)
                    have f17 := getq (show a9.tmps.getD 144 undef = .agg (lcv x).toArray from haf ⟨17, .data⟩ (by simp) rfl)
                    refine skip_good _ (wanted_some rfl (yielded_of (d := 136) rfl (by omega) gg)) ?_
                    clear haf ho hsz2 gg
                    intro K hK
                    simp only [List.getElem_toArray, List.getElem_cons_succ, List.getElem_cons_zero] at hK ⊢
                    obtain ⟨nn, rfl⟩ := hW
                    go_simp
                    exact hK _ _ ⟨Below.refl _ _, ⟨nn, rfl⟩, rfl⟩
                  | 19, ho, haf =>
                    obtain rfl := Option.some.inj ho
                    have f9 := getq (show a9.tmps.getD 136 undef = .bool false from haf ⟨9, .data⟩ (by simp) rfl)
                    have f18 := getq (show a9.tmps.getD 145 undef = .bool false from haf ⟨18, .data⟩ (by simp) rfl)
                    refine skip_good _ (wanted_none rfl) ?_
                    clear haf ho hsz2
                    intro K hK
                    simp only [List.getElem_toArray, List.getElem_cons_succ, List.getElem_cons_zero] at hK ⊢
                    obtain ⟨nn, rfl⟩ := hW
                    go_simp
                    exact hK _ _ ⟨Below.refl _ _, ⟨nn, rfl⟩, rfl⟩
                  | 20, ho, haf =>
                    obtain rfl := Option.some.inj ho
                    have f19 := getq (show a9.tmps.getD 146 undef = .bool false from haf ⟨19, .data⟩ (by simp) rfl)
                    refine skip_good _ (wanted_none rfl) ?_
                    clear haf ho hsz2
                    intro K hK
                    simp only [List.getElem_toArray, List.getElem_cons_succ, List.getElem_cons_zero] at hK ⊢
                    obtain ⟨nn, rfl⟩ := hW
                    go_simp
                    exact hK _ _ ⟨Below.refl _ _, ⟨nn, rfl⟩, rfl⟩
                  | 21, ho, haf =>
                    obtain rfl := Option.some.inj ho
                    have gg : a9.tmps.getD 147 undef = .bool false := haf ⟨20, .guard⟩ (by simp) rfl
                    refine skip_good _ (wanted_some rfl (yielded_of (d := 147) rfl (by omega) gg)) ?_
                    clear haf ho hsz2 gg
                    intro K hK
                    simp only [List.getElem_toArray, List.getElem_cons_succ, List.getElem_cons_zero] at hK ⊢
                    obtain ⟨nn, rfl⟩ := hW
                    go_simp
                    exact hK _ _ ⟨Below.refl _ _, ⟨nn, rfl⟩, rfl⟩
                  | 22, ho, haf =>
                    obtain rfl := Option.some.inj ho
                    have gg : a9.tmps.getD 147 undef = .bool false := haf ⟨20, .guard⟩ (by simp) rfl
                    refine skip_good _ (wanted_some rfl (yielded_of (d := 147) rfl (by omega) gg)) ?_
                    clear haf ho hsz2 gg
                    intro K hK
                    simp only [List.getElem_toArray, List.getElem_cons_succ, List.getElem_cons_zero] at hK ⊢
                    obtain ⟨nn, rfl⟩ := hW
                    go_simp
                    exact hK _ _ ⟨Below.refl _ _, ⟨nn, rfl⟩, rfl⟩
                  | 23, ho, haf =>
                    obtain rfl := Option.some.inj ho
                    have gg : a9.tmps.getD 147 undef = .bool false := haf ⟨20, .guard⟩ (by simp) rfl
                    have f21 := getq (show a9.tmps.getD 148 undef = Value.slice (some { block := gJn, off := 0 }) L.length cn from haf ⟨21, .data⟩ (by simp) rfl)
                    have f22 := getq (show a9.tmps.getD 149 undef = Value.int IntKind.i64 ((j : Nat) : Int) from haf ⟨22, .data⟩ (by simp) rfl)
                    refine skip_good _ (wanted_some rfl (yielded_of (d := 147) rfl (by omega) gg)) ?_
                    clear haf ho hsz2 gg
                    intro K hK
                    simp only [List.getElem_toArray, List.getElem_cons_succ, List.getElem_cons_zero] at hK ⊢
                    obtain ⟨nn, rfl⟩ := hW
                    go_simp
                    exact hK _ _ ⟨Below.refl _ _, ⟨nn, rfl⟩, rfl⟩
                  | 24, ho, haf =>
                    obtain rfl := Option.some.inj ho
                    have gg : a9.tmps.getD 147 undef = .bool false := haf ⟨20, .guard⟩ (by simp) rfl
                    have f23 := getq (show a9.tmps.getD 150 undef = .pointer (some ⟨gJn, j * 16, none⟩) from haf ⟨23, .data⟩ (by simp) rfl)
                    refine skip_good _ (wanted_some rfl (yielded_of (d := 147) rfl (by omega) gg)) ?_
                    have hx0 : a9.eval (Operand.tmp 150) = .pointer (some ⟨gJn, j * 16, none⟩) := haf ⟨23, .data⟩ (by simp) rfl
                    clear haf ho hsz2 gg
                    intro K hK
                    simp only [List.getElem_toArray, List.getElem_cons_succ, List.getElem_cons_zero] at hK ⊢
                    obtain ⟨nn, rfl⟩ := hW
                    exact wp_load_mid 43 _ rfl gJn (j * 16) hx0 (lcv x) _ (hrJn nn) Try.underlying43 rfl (by kernel_rfl) (hK _ _ ⟨Below.refl _ _, ⟨nn, rfl⟩, rfl⟩)
                  | 25, ho, haf =>
                    obtain rfl := Option.some.inj ho
                    have gg : a9.tmps.getD 147 undef = .bool false := haf ⟨20, .guard⟩ (by simp) rfl
                    refine skip_good _ (wanted_some rfl (yielded_of (d := 147) rfl (by omega) gg)) ?_
                    clear haf ho hsz2 gg
                    intro K hK
                    simp only [List.getElem_toArray, List.getElem_cons_succ, List.getElem_cons_zero] at hK ⊢
                    obtain ⟨nn, rfl⟩ := hW
                    go_simp
                    exact hK _ _ ⟨Below.refl _ _, ⟨nn, rfl⟩, rfl⟩
                  | 26, ho, haf =>
                    obtain rfl := Option.some.inj ho
                    have gg : a9.tmps.getD 147 undef = .bool false := haf ⟨20, .guard⟩ (by simp) rfl
                    refine skip_good _ (wanted_some rfl (yielded_of (d := 147) rfl (by omega) gg)) ?_
                    clear haf ho hsz2 gg
                    intro K hK
                    simp only [List.getElem_toArray, List.getElem_cons_succ, List.getElem_cons_zero] at hK ⊢
                    obtain ⟨nn, rfl⟩ := hW
                    go_simp
                    exact hK _ _ ⟨Below.refl _ _, ⟨nn, rfl⟩, rfl⟩
                  | 27, ho, haf =>
                    obtain rfl := Option.some.inj ho
                    have gg : a9.tmps.getD 147 undef = .bool false := haf ⟨20, .guard⟩ (by simp) rfl
                    have f25 := getq (show a9.tmps.getD 152 undef = Value.slice (some { block := gJm, off := 0 }) L.length cm from haf ⟨25, .data⟩ (by simp) rfl)
                    have f26 := getq (show a9.tmps.getD 153 undef = Value.int IntKind.i64 ((j : Nat) : Int) from haf ⟨26, .data⟩ (by simp) rfl)
                    refine skip_good _ (wanted_some rfl (yielded_of (d := 147) rfl (by omega) gg)) ?_
                    clear haf ho hsz2 gg
                    intro K hK
                    simp only [List.getElem_toArray, List.getElem_cons_succ, List.getElem_cons_zero] at hK ⊢
                    obtain ⟨nn, rfl⟩ := hW
                    go_simp
                    exact hK _ _ ⟨Below.refl _ _, ⟨nn, rfl⟩, rfl⟩
                  | 28, ho, haf =>
                    obtain rfl := Option.some.inj ho
                    have gg : a9.tmps.getD 147 undef = .bool false := haf ⟨20, .guard⟩ (by simp) rfl
                    have f27 := getq (show a9.tmps.getD 154 undef = .pointer (some ⟨gJm, j * 16, none⟩) from haf ⟨27, .data⟩ (by simp) rfl)
                    refine skip_good _ (wanted_some rfl (yielded_of (d := 147) rfl (by omega) gg)) ?_
                    have hx0 : a9.eval (Operand.tmp 154) = .pointer (some ⟨gJm, j * 16, none⟩) := haf ⟨27, .data⟩ (by simp) rfl
                    clear haf ho hsz2 gg
                    intro K hK
                    simp only [List.getElem_toArray, List.getElem_cons_succ, List.getElem_cons_zero] at hK ⊢
                    obtain ⟨nn, rfl⟩ := hW
                    exact wp_load_mid 43 _ rfl gJm (j * 16) hx0 (lcv x) _ (hrJm nn) Try.underlying43 rfl (by kernel_rfl) (hK _ _ ⟨Below.refl _ _, ⟨nn, rfl⟩, rfl⟩)
                  | 29, ho, haf =>
                    obtain rfl := Option.some.inj ho
                    have gg : a9.tmps.getD 147 undef = .bool false := haf ⟨20, .guard⟩ (by simp) rfl
                    have f24 := getq (show a9.tmps.getD 151 undef = .agg (lcv x).toArray from haf ⟨24, .data⟩ (by simp) rfl)
                    have f28 := getq (show a9.tmps.getD 155 undef = .agg (lcv x).toArray from haf ⟨28, .data⟩ (by simp) rfl)
                    refine skip_good _ (wanted_some rfl (yielded_of (d := 147) rfl (by omega) gg)) ?_
                    clear haf ho hsz2 gg
                    intro K hK
                    simp only [List.getElem_toArray, List.getElem_cons_succ, List.getElem_cons_zero] at hK ⊢
                    obtain ⟨nn, rfl⟩ := hW
                    go_simp
                    exact hK _ _ ⟨Below.refl _ _, ⟨nn, rfl⟩, rfl⟩
                  | 30, ho, haf =>
                    obtain rfl := Option.some.inj ho
                    have f20 := getq (show a9.tmps.getD 147 undef = .bool false from haf ⟨20, .data⟩ (by simp) rfl)
                    have f29 := getq (show a9.tmps.getD 156 undef = .bool false from haf ⟨29, .data⟩ (by simp) rfl)
                    refine skip_good _ (wanted_none rfl) ?_
                    clear haf ho hsz2
                    intro K hK
                    simp only [List.getElem_toArray, List.getElem_cons_succ, List.getElem_cons_zero] at hK ⊢
                    obtain ⟨nn, rfl⟩ := hW
                    go_simp
                    exact hK _ _ ⟨Below.refl _ _, ⟨nn, rfl⟩, rfl⟩
                  | n + 31, ho, haf => simp at ho
              · as_aux_lemma =>
                  intro aa w9 hW hdf hsz hout hall
                  have hat : aa.tmps = #[Value.slice a l.length c, Value.slice ka zs.length kc, undef, undef, u4, Value.slice (some { block := w.heap.size, off := 0 }) l.length (l.length + 8), Value.slice (some { block := w1.heap.size, off := 0 }) (zs.length + 8) (zs.length + 8), Value.int IntKind.i64 ((zs.length : Nat) : Int), Value.slice (some { block := gJx, off := 0 }) L.length cx, Value.slice (some { block := gJn, off := 0 }) L.length cn, Value.slice (some { block := gJm, off := 0 }) L.length cm, Value.int IntKind.i64 (((zs.length : Nat) : Int) + 8), Value.slice ao M.length co, Value.slice (some { block := gJq, off := 0 }) L.length cq, Value.int IntKind.i64 ((j : Nat) : Int), undef, undef, undef, undef, undef, undef, undef, Value.slice a l.length c, Value.slice (some { block := w.heap.size, off := 0 }) l.length (l.length + 8), Value.slice ka zs.length kc, Value.int IntKind.i64 ((zs.length : Nat) : Int), Value.int IntKind.i64 (((zs.length : Nat) : Int) + 8), Value.slice (some { block := w1.heap.size, off := 0 }) (zs.length + 8) (zs.length + 8), Value.int IntKind.i64 ((zs.length : Nat) : Int), Value.slice ka zs.length kc, Value.int IntKind.i64 ((zs.length : Nat) : Int), Value.bool false, u32, u33, u34, u35, u36, u37, u38, u39, u40, Value.slice (some { block := w.heap.size, off := 0 }) l.length (l.length + 8), Value.slice (some { block := w1.heap.size, off := 0 }) (zs.length + 8) (zs.length + 8), Value.slice ka zs.length kc, Value.int IntKind.i64 ((zs.length : Nat) : Int), Value.slice (some { block := w1.heap.size, off := 0 }) zs.length (zs.length + 8), Value.slice (some { block := gJx, off := 0 }) L.length cx, Value.slice (some { block := w.heap.size, off := 0 }) l.length (l.length + 8), Value.slice (some { block := w1.heap.size, off := 0 }) (zs.length + 8) (zs.length + 8), Value.slice ka zs.length kc, Value.int IntKind.i64 ((zs.length : Nat) : Int), Value.slice (some { block := w1.heap.size, off := 0 }) zs.length (zs.length + 8), Value.slice (some { block := gJn, off := 0 }) L.length cn, Value.slice a l.length c, Value.slice ka zs.length kc, Value.slice (some { block := gJm, off := 0 }) L.length cm, Value.slice (some { block := gJx, off := 0 }) L.length cx, Value.int IntKind.i64 ((L.length : Nat) : Int), Value.slice (some { block := gJm, off := 0 }) L.length cm, Value.int IntKind.i64 ((L.length : Nat) : Int), Value.bool false, Value.bool false, Value.slice (some { block := w.heap.size, off := 0 }) l.length (l.length + 8), Value.slice a l.length c, Value.bool true, Value.bool false, Value.bool false, Value.int IntKind.i64 (((zs.length : Nat) : Int) + 8), Value.slice (some { block := w1.heap.size, off := 0 }) (zs.length + 8) (zs.length + 8), Value.int IntKind.i64 (((zs.length : Nat) : Int) + 8), Value.bool false, u71, u72, u73, u74, u75, u76, u77, u78, u79, u80, u81, u82, u83, u84, u85, u86, u87, u88, u89, u90, u91, u92, u93, u94, u95, u96, u97, u98, u99, u100, Value.slice (some { block := w.heap.size, off := 0 }) l.length (l.length + 8), Value.slice ao M.length co, Value.slice (some { block := w.heap.size, off := 0 }) l.length (l.length + 8), Value.slice (some { block := w1.heap.size, off := 0 }) (zs.length + 8) (zs.length + 8), Value.slice ka zs.length kc, Value.int IntKind.i64 ((zs.length : Nat) : Int), Value.slice (some { block := w1.heap.size, off := 0 }) zs.length (zs.length + 8), Value.slice (some { block := gJq, off := 0 }) L.length cq, Value.slice (some { block := gJq, off := 0 }) L.length cq, Value.int IntKind.i64 ((L.length : Nat) : Int), Value.slice (some { block := gJm, off := 0 }) L.length cm, Value.int IntKind.i64 ((L.length : Nat) : Int), Value.bool false, Value.bool false, Value.slice (some { block := gJn, off := 0 }) L.length cn, Value.int IntKind.i64 ((L.length : Nat) : Int), Value.slice (some { block := gJm, off := 0 }) L.length cm, Value.int IntKind.i64 ((L.length : Nat) : Int), Value.bool false, Value.bool false, Value.int IntKind.i64 ((j : Nat) : Int), Value.slice (some { block := gJx, off := 0 }) L.length cx, Value.int IntKind.i64 ((L.length : Nat) : Int), Value.bool true, u125, u126, Value.slice (some { block := gJx, off := 0 }) L.length cx, Value.int IntKind.i64 ((j : Nat) : Int), .pointer (some ⟨gJx, j * 16, none⟩), .agg (lcv x).toArray, Value.slice (some { block := gJm, off := 0 }) L.length cm, Value.int IntKind.i64 ((j : Nat) : Int), .pointer (some ⟨gJm, j * 16, none⟩), .agg (lcv x).toArray, .bool false, .bool false, Value.slice (some { block := gJq, off := 0 }) L.length cq, Value.int IntKind.i64 ((j : Nat) : Int), .pointer (some ⟨gJq, j * 16, none⟩), .agg (lcv x).toArray, Value.slice (some { block := gJm, off := 0 }) L.length cm, Value.int IntKind.i64 ((j : Nat) : Int), .pointer (some ⟨gJm, j * 16, none⟩), .agg (lcv x).toArray, .bool false, .bool false, .bool false, Value.slice (some { block := gJn, off := 0 }) L.length cn, Value.int IntKind.i64 ((j : Nat) : Int), .pointer (some ⟨gJn, j * 16, none⟩), .agg (lcv x).toArray, Value.slice (some { block := gJm, off := 0 }) L.length cm, Value.int IntKind.i64 ((j : Nat) : Int), .pointer (some ⟨gJm, j * 16, none⟩), .agg (lcv x).toArray, .bool false, .bool false, undef, undef, undef, undef, undef, undef, undef, undef, undef, undef, undef, undef, undef, undef, undef, undef, undef, undef, undef, undef, undef, undef, undef, undef, undef, undef, undef, undef, undef, undef, undef, undef, undef, undef, undef, undef, undef, undef, undef, undef, undef, undef, undef, undef, undef, undef, undef, undef, undef, undef, undef, undef, undef, undef, undef, undef, undef, undef, undef, undef, undef, undef, undef, undef, undef, undef, undef, undef, undef, undef, undef, undef, undef, undef, undef, undef, undef, undef, undef, undef, undef, undef, undef, undef, undef, undef, undef] := by
                    refine (tmps_of (lo := 127) (vs := [Value.slice (some { block := gJx, off := 0 }) L.length cx, Value.int IntKind.i64 ((j : Nat) : Int), .pointer (some ⟨gJx, j * 16, none⟩), .agg (lcv x).toArray, Value.slice (some { block := gJm, off := 0 }) L.length cm, Value.int IntKind.i64 ((j : Nat) : Int), .pointer (some ⟨gJm, j * 16, none⟩), .agg (lcv x).toArray, .bool false, .bool false, Value.slice (some { block := gJq, off := 0 }) L.length cq, Value.int IntKind.i64 ((j : Nat) : Int), .pointer (some ⟨gJq, j * 16, none⟩), .agg (lcv x).toArray, Value.slice (some { block := gJm, off := 0 }) L.length cm, Value.int IntKind.i64 ((j : Nat) : Int), .pointer (some ⟨gJm, j * 16, none⟩), .agg (lcv x).toArray, .bool false, .bool false, .bool false, Value.slice (some { block := gJn, off := 0 }) L.length cn, Value.int IntKind.i64 ((j : Nat) : Int), .pointer (some ⟨gJn, j * 16, none⟩), .agg (lcv x).toArray, Value.slice (some { block := gJm, off := 0 }) L.length cm, Value.int IntKind.i64 ((j : Nat) : Int), .pointer (some ⟨gJm, j * 16, none⟩), .agg (lcv x).toArray, .bool false, .bool false]) hsz (by kernel_rfl) (Nat.le_of_ble_eq_true (by kernel_rfl)) hout (fun i hi => ?_)).trans ?_
                    · match i, hi with
                      | 0, _ => exact hall 0 (by decide)
                      | 1, _ => exact hall 1 (by decide)
                      | 2, _ => exact hall 2 (by decide)
                      | 3, _ => exact hall 3 (by decide)
                      | 4, _ => exact hall 4 (by decide)
                      | 5, _ => exact hall 5 (by decide)
                      | 6, _ => exact hall 6 (by decide)
                      | 7, _ => exact hall 7 (by decide)
                      | 8, _ => exact hall 8 (by decide)
                      | 9, _ => exact hall 9 (by decide)
                      | 10, _ => exact hall 10 (by decide)
                      | 11, _ => exact hall 11 (by decide)
                      | 12, _ => exact hall 12 (by decide)
                      | 13, _ => exact hall 13 (by decide)
                      | 14, _ => exact hall 14 (by decide)
                      | 15, _ => exact hall 15 (by decide)
                      | 16, _ => exact hall 16 (by decide)
                      | 17, _ => exact hall 17 (by decide)
                      | 18, _ => exact hall 18 (by decide)
                      | 19, _ => exact hall 19 (by decide)
                      | 20, _ => exact hall 20 (by decide)
                      | 21, _ => exact hall 21 (by decide)
                      | 22, _ => exact hall 22 (by decide)
                      | 23, _ => exact hall 23 (by decide)
                      | 24, _ => exact hall 24 (by decide)
                      | 25, _ => exact hall 25 (by decide)
                      | 26, _ => exact hall 26 (by decide)
                      | 27, _ => exact hall 27 (by decide)
                      | 28, _ => exact hall 28 (by decide)
                      | 29, _ => exact hall 29 (by decide)
                      | 30, _ => exact hall 30 (by decide)
                      | n + 31, h => exact absurd h (by simp)
                    · rfl
                  obtain ⟨tt, dd⟩ := aa
                  simp only at hat hdf
                  subst hat hdf
                  clear hsz hout hall
                  obtain ⟨nn, rfl⟩ := hW
                  go_wp2_with fail
                  go_roundw
                  case rel => exact ⟨j + 1, _, HLT.out, by go_num, rfl⟩
                  case measure => have := HLT.out; simp [intOf]; omega
            · have hji : ¬ ((j : Nat) : Int) < (L.length : Int) := by omega
              obtain rfl : j = L.length := by omega
              clear hj hlt
              have HS12 := hd (HS11.out.keep (below_drewN (Below.refl _ _) n))
              have Jx := hd (Jx.out.drewN n)
              have Jn := hd (Jn.out.drewN n)
              have Jm := hd (Jm.out.drewN n)
              have Jo := hd (Jo.out.drewN n)
              have Jq := hd (Jq.out.drewN n)
              have hs12 : w11.heap.size ≤ (w11.drewN n).heap.size := (below_drewN (Below.refl w11.heap.size w11) n).size
              obtain ⟨w12, hw12⟩ : ∃ w12, w12 = w11.drewN n := ⟨_, rfl⟩
              rw [← hw12] at HS12 Jx Jn Jm Jo Jq hs12 ⊢
              clear hw12 HS11
              go_wp2_with fail
              refine Calls.mono (rrecordsQ _ l _ [] w12 HS12.out.data (show KD w12 (.slice none 0 0) [] from ⟨none, 0, rfl, by simp, .inl rfl⟩) (by omega)) ?_
              rintro e w13 ⟨⟨aw, cw, rfl, hcw, jw⟩, bw⟩
              rw [HME.out] at jw hcw ⊢
              have HS13 := hd (HS12.out.keep bw)
              have Jx := hd (Jx.out.keepAll bw)
              have Jn := hd (Jn.out.keepAll bw)
              have Jm := hd (Jm.out.keepAll bw)
              have Jo := hd (Jo.out.keepAll bw)
              have Jq := hd (Jq.out.keepAll bw)
              have Jw := hd jw
              have hzw := bw.size
              clear jw bw HS12
              go_wp2_with fail
              go_loopw [16] (fun x wr => ∃ (j n : Nat), j ≤ M.length ∧ x = .int .i64 (j : Int) ∧ wr = w13.drewN n) (fun x _ => M.length - (intOf x).toNat)
              case atStart => exact ⟨0, 0, by omega, rfl, rfl⟩
              case round =>
                obtain ⟨j, n, hj, rfl, rfl⟩ := hrel
                by_cases hlt : j < M.length
                · have hji : ((j : Nat) : Int) < (M.length : Int) := by omega
                  have HLT : Hid (j + 1 ≤ M.length) := hlt
                  obtain ⟨x, hx⟩ : ∃ x, M[j]? = some x := ⟨_, List.getElem?_eq_getElem hlt⟩
                  have hne : ∀ ww, (binOp .neq 43 (.agg (lcv x).toArray) (.agg (lcv x).toArray)).run Try.prog ww = .ok (.bool false) ww := fun ww => neq_lc x ww
                  obtain ⟨gJo, haJo, hrJo⟩ := jl_rowN Jo.out hx
                  subst haJo
                  obtain ⟨gJw, haJw, hrJw⟩ := jl_rowN Jw.out hx
                  subst haJw
                  clear hj hx
                  go_wp2_with fail
                  refine region_skip (fun i9 v9 _ => match i9 with
                      | 0 => v9 = Value.slice (some { block := gJo, off := 0 }) M.length co
                      | 1 => v9 = Value.int IntKind.i64 ((j : Nat) : Int)
                      | 2 => v9 = .pointer (some ⟨gJo, j * 16, none⟩)
                      | 3 => v9 = .agg (lcv x).toArray
                      | 4 => v9 = Value.slice (some { block := gJw, off := 0 }) M.length cw
                      | 5 => v9 = Value.int IntKind.i64 ((j : Nat) : Int)
                      | 6 => v9 = .pointer (some ⟨gJw, j * 16, none⟩)
                      | 7 => v9 = .agg (lcv x).toArray
                      | _ => v9 = .bool false) (fun w => ∃ nn, w = w13.drewN nn) hmx (by kernel_rfl) (by kernel_rfl) ⟨n + 1, rfl⟩ ?_ ?_ ?_
                  · as_aux_lemma =>
                      intro i9 v9 w8 w9 _ _ hb hG
                      match i9, hG with
                      | 0, h => exact h
                      | 1, h => exact h
                      | 2, h => exact h
                      | 3, h => exact h
                      | 4, h => exact h
                      | 5, h => exact h
                      | 6, h => exact h
                      | 7, h => exact h
                      | n + 8, h => exact h
                  · as_aux_lemma =>
                      intro i9 o9 ho a9 w9 hW hdf hsz hout haf
                      have ee12 := getq (show a9.tmps.getD 12 undef = Value.slice (some { block := gJo, off := 0 }) M.length co from hout 12 (notDst_spec (by kernel_rfl)))
                      have ee15 := getq (show a9.tmps.getD 15 undef = Value.slice (some { block := gJw, off := 0 }) M.length cw from hout 15 (notDst_spec (by kernel_rfl)))
                      have ee16 := getq (show a9.tmps.getD 16 undef = Value.int IntKind.i64 ((j : Nat) : Int) from hout 16 (notDst_spec (by kernel_rfl)))
                      have hsz2 : a9.tmps.size = 245 := hsz
                      clear hout hsz hdf
                      match i9, ho, haf with
                      | 0, ho, haf =>
                        obtain rfl := Option.some.inj ho
                        refine skip_good _ (wanted_none rfl) ?_
                        clear haf ho hsz2
                        intro K hK
                        simp only [List.getElem_toArray, List.getElem_cons_zero] at hK ⊢
                        obtain ⟨nn, rfl⟩ := hW
                        go_simp
                        exact hK _ _ ⟨Below.refl _ _, ⟨nn, rfl⟩, rfl⟩
                      | 1, ho, haf =>
                        obtain rfl := Option.some.inj ho
                        refine skip_good _ (wanted_none rfl) ?_
                        clear haf ho hsz2
                        intro K hK
                        simp only [List.getElem_toArray, List.getElem_cons_succ, List.getElem_cons_zero] at hK ⊢
                        obtain ⟨nn, rfl⟩ := hW
                        go_simp
                        exact hK _ _ ⟨Below.refl _ _, ⟨nn, rfl⟩, rfl⟩
                      | 2, ho, haf =>
                        obtain rfl := Option.some.inj ho
                        have f0 := getq (show a9.tmps.getD 171 undef = Value.slice (some { block := gJo, off := 0 }) M.length co from haf ⟨0, .data⟩ (by simp) rfl)
                        have f1 := getq (show a9.tmps.getD 172 undef = Value.int IntKind.i64 ((j : Nat) : Int) from haf ⟨1, .data⟩ (by simp) rfl)
                        refine skip_good _ (wanted_none rfl) ?_
                        clear haf ho hsz2
                        intro K hK
                        simp only [List.getElem_toArray, List.getElem_cons_succ, List.getElem_cons_zero] at hK ⊢
                        obtain ⟨nn, rfl⟩ := hW
                        go_simp
                        exact hK _ _ ⟨Below.refl _ _, ⟨nn, rfl⟩, rfl⟩
                      | 3, ho, haf =>
                        obtain rfl := Option.some.inj ho
                        have f2 := getq (show a9.tmps.getD 173 undef = .pointer (some ⟨gJo, j * 16, none⟩) from haf ⟨2, .data⟩ (by simp) rfl)
                        refine skip_good _ (wanted_none rfl) ?_
                        have hx0 : a9.eval (Operand.tmp 173) = .pointer (some ⟨gJo, j * 16, none⟩) := haf ⟨2, .data⟩ (by simp) rfl
                        clear haf ho hsz2
                        intro K hK
                        simp only [List.getElem_toArray, List.getElem_cons_succ, List.getElem_cons_zero] at hK ⊢
                        obtain ⟨nn, rfl⟩ := hW
                        exact wp_load_mid 43 _ rfl gJo (j * 16) hx0 (lcv x) _ (hrJo nn) Try.underlying43 rfl (by kernel_rfl) (hK _ _ ⟨Below.refl _ _, ⟨nn, rfl⟩, rfl⟩)
                      | 4, ho, haf =>
                        obtain rfl := Option.some.inj ho
                        refine skip_good _ (wanted_none rfl) ?_
                        clear haf ho hsz2
                        intro K hK
                        simp only [List.getElem_toArray, List.getElem_cons_succ, List.getElem_cons_zero] at hK ⊢
                        obtain ⟨nn, rfl⟩ := hW
                        go_simp
                        exact hK _ _ ⟨Below.refl _ _, ⟨nn, rfl⟩, rfl⟩
                      | 5, ho, haf =>
                        obtain rfl := Option.some.inj ho
                        refine skip_good _ (wanted_none rfl) ?_
                        clear haf ho hsz2
                        intro K hK
                        simp only [List.getElem_toArray, List.getElem_cons_succ, List.getElem_cons_zero] at hK ⊢
                        obtain ⟨nn, rfl⟩ := hW
                        go_simp
                        exact hK _ _ ⟨Below.refl _ _, ⟨nn, rfl⟩, rfl⟩
                      | 6, ho, haf =>
                        obtain rfl := Option.some.inj ho
                        have f4 := getq (show a9.tmps.getD 175 undef = Value.slice (some { block := gJw, off := 0 }) M.length cw from haf ⟨4, .data⟩ (by simp) rfl)
                        have f5 := getq (show a9.tmps.getD 176 undef = Value.int IntKind.i64 ((j : Nat) : Int) from haf ⟨5, .data⟩ (by simp) rfl)
                        refine skip_good _ (wanted_none rfl) ?_
                        clear haf ho hsz2
                        intro K hK
                        simp only [List.getElem_toArray, List.getElem_cons_succ, List.getElem_cons_zero] at hK ⊢
                        obtain ⟨nn, rfl⟩ := hW
                        go_simp
                        exact hK _ _ ⟨Below.refl _ _, ⟨nn, rfl⟩, rfl⟩
                      | 7, ho, haf =>
                        obtain rfl := Option.some.inj ho
                        have f6 := getq (show a9.tmps.getD 177 undef = .pointer (some ⟨gJw, j * 16, none⟩) from haf ⟨6, .data⟩ (by simp) rfl)
                        refine skip_good _ (wanted_none rfl) ?_
                        have hx0 : a9.eval (Operand.tmp 177) = .pointer (some ⟨gJw, j * 16, none⟩) := haf ⟨6, .data⟩ (by simp) rfl
                        clear haf ho hsz2
                        intro K hK
                        simp only [List.getElem_toArray, List.getElem_cons_succ, List.getElem_cons_zero] at hK ⊢
                        obtain ⟨nn, rfl⟩ := hW
                        exact wp_load_mid 43 _ rfl gJw (j * 16) hx0 (lcv x) _ (hrJw nn) Try.underlying43 rfl (by kernel_rfl) (hK _ _ ⟨Below.refl _ _, ⟨nn, rfl⟩, rfl⟩)
                      | 8, ho, haf =>
                        obtain rfl := Option.some.inj ho
                        have f3 := getq (show a9.tmps.getD 174 undef = .agg (lcv x).toArray from haf ⟨3, .data⟩ (by simp) rfl)
                        have f7 := getq (show a9.tmps.getD 178 undef = .agg (lcv x).toArray from haf ⟨7, .data⟩ (by simp) rfl)
                        refine skip_good _ (wanted_none rfl) ?_
                        clear haf ho hsz2
                        intro K hK
                        simp only [List.getElem_toArray, List.getElem_cons_succ, List.getElem_cons_zero] at hK ⊢
                        obtain ⟨nn, rfl⟩ := hW
                        go_simp
                        exact hK _ _ ⟨Below.refl _ _, ⟨nn, rfl⟩, rfl⟩
                      | n + 9, ho, haf => simp at ho
                  · as_aux_lemma =>
                      intro aa w9 hW hdf hsz hout hall
                      have hat : aa.tmps = #[Value.slice a l.length c, Value.slice ka zs.length kc, undef, undef, u4, Value.slice (some { block := w.heap.size, off := 0 }) l.length (l.length + 8), Value.slice (some { block := w1.heap.size, off := 0 }) (zs.length + 8) (zs.length + 8), Value.int IntKind.i64 ((zs.length : Nat) : Int), Value.slice ax L.length cx, Value.slice an L.length cn, Value.slice am L.length cm, Value.int IntKind.i64 (((zs.length : Nat) : Int) + 8), Value.slice (some { block := gJo, off := 0 }) M.length co, Value.slice aq L.length cq, Value.int IntKind.i64 ((L.length : Nat) : Int), Value.slice (some { block := gJw, off := 0 }) M.length cw, Value.int IntKind.i64 ((j : Nat) : Int), undef, undef, undef, undef, undef, Value.slice a l.length c, Value.slice (some { block := w.heap.size, off := 0 }) l.length (l.length + 8), Value.slice ka zs.length kc, Value.int IntKind.i64 ((zs.length : Nat) : Int), Value.int IntKind.i64 (((zs.length : Nat) : Int) + 8), Value.slice (some { block := w1.heap.size, off := 0 }) (zs.length + 8) (zs.length + 8), Value.int IntKind.i64 ((zs.length : Nat) : Int), Value.slice ka zs.length kc, Value.int IntKind.i64 ((zs.length : Nat) : Int), Value.bool false, u32, u33, u34, u35, u36, u37, u38, u39, u40, Value.slice (some { block := w.heap.size, off := 0 }) l.length (l.length + 8), Value.slice (some { block := w1.heap.size, off := 0 }) (zs.length + 8) (zs.length + 8), Value.slice ka zs.length kc, Value.int IntKind.i64 ((zs.length : Nat) : Int), Value.slice (some { block := w1.heap.size, off := 0 }) zs.length (zs.length + 8), Value.slice ax L.length cx, Value.slice (some { block := w.heap.size, off := 0 }) l.length (l.length + 8), Value.slice (some { block := w1.heap.size, off := 0 }) (zs.length + 8) (zs.length + 8), Value.slice ka zs.length kc, Value.int IntKind.i64 ((zs.length : Nat) : Int), Value.slice (some { block := w1.heap.size, off := 0 }) zs.length (zs.length + 8), Value.slice an L.length cn, Value.slice a l.length c, Value.slice ka zs.length kc, Value.slice am L.length cm, Value.slice ax L.length cx, Value.int IntKind.i64 ((L.length : Nat) : Int), Value.slice am L.length cm, Value.int IntKind.i64 ((L.length : Nat) : Int), Value.bool false, Value.bool false, Value.slice (some { block := w.heap.size, off := 0 }) l.length (l.length + 8), Value.slice a l.length c, Value.bool true, Value.bool false, Value.bool false, Value.int IntKind.i64 (((zs.length : Nat) : Int) + 8), Value.slice (some { block := w1.heap.size, off := 0 }) (zs.length + 8) (zs.length + 8), Value.int IntKind.i64 (((zs.length : Nat) : Int) + 8), Value.bool false, u71, u72, u73, u74, u75, u76, u77, u78, u79, u80, u81, u82, u83, u84, u85, u86, u87, u88, u89, u90, u91, u92, u93, u94, u95, u96, u97, u98, u99, u100, Value.slice (some { block := w.heap.size, off := 0 }) l.length (l.length + 8), Value.slice (some { block := gJo, off := 0 }) M.length co, Value.slice (some { block := w.heap.size, off := 0 }) l.length (l.length + 8), Value.slice (some { block := w1.heap.size, off := 0 }) (zs.length + 8) (zs.length + 8), Value.slice ka zs.length kc, Value.int IntKind.i64 ((zs.length : Nat) : Int), Value.slice (some { block := w1.heap.size, off := 0 }) zs.length (zs.length + 8), Value.slice aq L.length cq, Value.slice aq L.length cq, Value.int IntKind.i64 ((L.length : Nat) : Int), Value.slice am L.length cm, Value.int IntKind.i64 ((L.length : Nat) : Int), Value.bool false, Value.bool false, Value.slice an L.length cn, Value.int IntKind.i64 ((L.length : Nat) : Int), Value.slice am L.length cm, Value.int IntKind.i64 ((L.length : Nat) : Int), Value.bool false, Value.bool false, Value.int IntKind.i64 ((L.length : Nat) : Int), Value.slice ax L.length cx, Value.int IntKind.i64 ((L.length : Nat) : Int), Value.bool false, u125, u126, u127, u128, u129, u130, u131, u132, u133, u134, u135, u136, u137, u138, u139, u140, u141, u142, u143, u144, u145, u146, u147, u148, u149, u150, u151, u152, u153, u154, u155, u156, u157, Value.slice a l.length c, Value.slice (some { block := gJw, off := 0 }) M.length cw, Value.slice (some { block := gJo, off := 0 }) M.length co, Value.int IntKind.i64 ((M.length : Nat) : Int), Value.slice (some { block := gJw, off := 0 }) M.length cw, Value.int IntKind.i64 ((M.length : Nat) : Int), Value.bool false, Value.int IntKind.i64 ((j : Nat) : Int), Value.slice (some { block := gJo, off := 0 }) M.length co, Value.int IntKind.i64 ((M.length : Nat) : Int), Value.bool true, u169, u170, Value.slice (some { block := gJo, off := 0 }) M.length co, Value.int IntKind.i64 ((j : Nat) : Int), .pointer (some ⟨gJo, j * 16, none⟩), .agg (lcv x).toArray, Value.slice (some { block := gJw, off := 0 }) M.length cw, Value.int IntKind.i64 ((j : Nat) : Int), .pointer (some ⟨gJw, j * 16, none⟩), .agg (lcv x).toArray, .bool false, undef, undef, undef, undef, undef, undef, undef, undef, undef, undef, undef, undef, undef, undef, undef, undef, undef, undef, undef, undef, undef, undef, undef, undef, undef, undef, undef, undef, undef, undef, undef, undef, undef, undef, undef, undef, undef, undef, undef, undef, undef, undef, undef, undef, undef, undef, undef, undef, undef, undef, undef, undef, undef, undef, undef, undef, undef, undef, undef, undef, undef, undef, undef, undef, undef] := by
                        refine (tmps_of (lo := 171) (vs := [Value.slice (some { block := gJo, off := 0 }) M.length co, Value.int IntKind.i64 ((j : Nat) : Int), .pointer (some ⟨gJo, j * 16, none⟩), .agg (lcv x).toArray, Value.slice (some { block := gJw, off := 0 }) M.length cw, Value.int IntKind.i64 ((j : Nat) : Int), .pointer (some ⟨gJw, j * 16, none⟩), .agg (lcv x).toArray, .bool false]) hsz (by kernel_rfl) (Nat.le_of_ble_eq_true (by kernel_rfl)) hout (fun i hi => ?_)).trans ?_
                        · match i, hi with
                          | 0, _ => exact hall 0 (by decide)
                          | 1, _ => exact hall 1 (by decide)
                          | 2, _ => exact hall 2 (by decide)
                          | 3, _ => exact hall 3 (by decide)
                          | 4, _ => exact hall 4 (by decide)
                          | 5, _ => exact hall 5 (by decide)
                          | 6, _ => exact hall 6 (by decide)
                          | 7, _ => exact hall 7 (by decide)
                          | 8, _ => exact hall 8 (by decide)
                          | n + 9, h => exact absurd h (by simp)
                        · rfl
                      obtain ⟨tt, dd⟩ := aa
                      simp only at hat hdf
                      subst hat hdf
                      clear hsz hout hall
                      obtain ⟨nn, rfl⟩ := hW
                      go_wp2_with fail
                      go_roundw
                      case rel => exact ⟨j + 1, _, HLT.out, by go_num, rfl⟩
                      case measure => have := HLT.out; simp [intOf]; omega
                · have hji : ¬ ((j : Nat) : Int) < (M.length : Int) := by omega
                  obtain rfl : j = M.length := by omega
                  clear hj hlt
                  have HS14 := hd (HS13.out.keep (below_drewN (Below.refl _ _) n))
                  have Jx := hd (Jx.out.drewN n)
                  have Jn := hd (Jn.out.drewN n)
                  have Jm := hd (Jm.out.drewN n)
                  have Jo := hd (Jo.out.drewN n)
                  have Jq := hd (Jq.out.drewN n)
                  have hs14 : w13.heap.size ≤ (w13.drewN n).heap.size := (below_drewN (Below.refl w13.heap.size w13) n).size
                  obtain ⟨w14, hw14⟩ : ∃ w14, w14 = w13.drewN n := ⟨_, rfl⟩
                  rw [← hw14] at HS14 Jx Jn Jm Jo Jq hs14 ⊢
                  clear hw14 HS13
                  go_wp2_with fail
                  have hal : Below w14.heap.size w14 (w14.alloc (.cells #[.slice ax L.length cx, .slice an L.length cn, .slice ao M.length co, .slice aq L.length cq] 26)) := (Below.refl _ _).alloc (Nat.le_refl _) _
                  have h34 : w3.heap.size ≤ w14.heap.size := by omega
                  have hrs : RSR LT 16 (w14.alloc (.cells #[.slice ax L.length cx, .slice an L.length cn, .slice ao M.length co, .slice aq L.length cq] 26)) w3.heap.size [.slice ax L.length cx, .slice an L.length cn, .slice ao M.length co, .slice aq L.length cq] (fun t => if t = 2 then M.map lcv else L.map lcv) := by
                    have hx := Jx.out
                    have hn := Jn.out
                    have ho := Jo.out
                    have hq := Jq.out
                    refine four_rl ((hx.keepAll hal).lower (by omega)) ((hn.keepAll hal).lower (by omega)) ((ho.keepAll hal).lower (by omega)) ((hq.keepAll hal).lower (by omega)) ?_ ?_ ?_ ?_ ?_ ?_
                    · exact lr_apart2 Lx.out hn (by omega)
                    · exact lr_apart2 Lx.out ho (by omega)
                    · exact lr_apart2 Lx.out hq (by omega)
                    · exact lr_apart2 Ln.out ho (by omega)
                    · exact lr_apart2 Ln.out hq (by omega)
                    · exact lr_apart2 Lo.out hq (by omega)
                  have hmr : ∀ b, (Value.slice am L.length cm).ownBlock = some b → b < w14.heap.size ∧ ∀ t, t < 4 → (([Value.slice ax L.length cx, .slice an L.length cn, .slice ao M.length co, .slice aq L.length cq] : List Value).getD t Ow.nil).ownBlock ≠ some b := by
                    intro b hb
                    have hx := Jx.out
                    have hn := Jn.out
                    have ho := Jo.out
                    have hq := Jq.out
                    have hmm := Jm.out
                    refine ⟨hmm.blk_lt b hb, fun t ht => ?_⟩
                    have : t = 0 ∨ t = 1 ∨ t = 2 ∨ t = 3 := by omega
                    rcases this with rfl | rfl | rfl | rfl
                    · exact fun e => lr_apart2 Lx.out hmm (by omega) b e hb
                    · exact fun e => lr_apart2 Ln.out hmm (by omega) b e hb
                    · exact fun e => lr_apart2 Lm.out ho (by omega) b hb e
                    · exact fun e => lr_apart2 Lm.out hq (by omega) b hb e
                  have HLO := hd (locown_is (w14.alloc (.cells #[.slice ax L.length cx, .slice an L.length cn, .slice ao M.length co, .slice aq L.length cq] 26)) w3.heap.size w14.heap.size 4 _ (fun t => if t = 2 then M.map lcv else L.map lcv) (lists_newL w14 w3.heap.size w14.heap.size _ _ _ _ rfl h34 (by intro u hu; simp only [List.mem_cons, List.mem_nil_iff, or_false] at hu; rcases hu with rfl | rfl | rfl | rfl <;> rfl)) hrs (by simp) (by intro t; show (if t = 2 then M.map lcv else L.map lcv).length ≤ _; split <;> rw [List.length_map] <;> omega) (by simp; omega))
                  have HMR := hd hmr
                  clear hrs hmr
                  refine Calls.mono HLO.out ?_
                  rintro e w15 ⟨rfl, bl, kl⟩
                  have Jm := hd (jr_same Jm.out fun b hb => (kl.2 b (by have := (HMR.out b hb).1; simp; omega) (fun t ht => (HMR.out b hb).2 t (by simpa using ht))).trans (hal.block b (HMR.out b hb).1))
                  have HS15 := hd (HS14.out.keepB HI.out HK.out (by omega) (by omega) ((hal.mono (by omega)).trans bl))
                  have hz15 : w14.heap.size ≤ w15.heap.size := Nat.le_trans hal.size bl.size
                  clear HLO HMR HS14 Jx Jn Jo Jq bl kl hal
                  go_wp2_with fail
                  refine Calls.mono (recordsQ _ l _ zs w15 (lent_isB HS15.out.own) (HS15.out.full.kd hzl) (by omega)) ?_
                  rintro e w16 ⟨⟨af, cf, rfl, hcf, jf⟩, bf⟩
                  rw [HLE.out] at jf hcf ⊢
                  have HS16 := hd (HS15.out.keep bf)
                  have Jm := hd (Jm.out.keepAll bf)
                  have Jf := hd jf
                  clear jf bf HS15
                  go_wp2_with fail
                  go_loopw [19] (fun x wr => ∃ (j n : Nat), j ≤ L.length ∧ x = .int .i64 (j : Int) ∧ wr = w16.drewN n) (fun x _ => L.length - (intOf x).toNat)
                  case atStart => exact ⟨0, 0, by omega, rfl, rfl⟩
                  case round =>
                    obtain ⟨j, n, hj, rfl, rfl⟩ := hrel
                    by_cases hlt : j < L.length
                    · have hji : ((j : Nat) : Int) < (L.length : Int) := by omega
                      have HLT : Hid (j + 1 ≤ L.length) := hlt
                      obtain ⟨x, hx⟩ : ∃ x, L[j]? = some x := ⟨_, List.getElem?_eq_getElem hlt⟩
                      have hne : ∀ ww, (binOp .neq 43 (.agg (lcv x).toArray) (.agg (lcv x).toArray)).run Try.prog ww = .ok (.bool false) ww := fun ww => neq_lc x ww
                      obtain ⟨gJf, haJf, hrJf⟩ := jl_rowN Jf.out hx
                      subst haJf
                      obtain ⟨gJm, haJm, hrJm⟩ := jl_rowN Jm.out hx
                      subst haJm
                      clear hj hx
                      go_wp2_with fail
                      refine region_skip (fun i9 v9 _ => match i9 with
                          | 0 => v9 = Value.slice (some { block := gJf, off := 0 }) L.length cf
                          | 1 => v9 = Value.int IntKind.i64 ((j : Nat) : Int)
                          | 2 => v9 = .pointer (some ⟨gJf, j * 16, none⟩)
                          | 3 => v9 = .agg (lcv x).toArray
                          | 4 => v9 = Value.slice (some { block := gJm, off := 0 }) L.length cm
                          | 5 => v9 = Value.int IntKind.i64 ((j : Nat) : Int)
                          | 6 => v9 = .pointer (some ⟨gJm, j * 16, none⟩)
                          | 7 => v9 = .agg (lcv x).toArray
                          | _ => v9 = .bool false) (fun w => ∃ nn, w = w16.drewN nn) hmx (by kernel_rfl) (by kernel_rfl) ⟨n + 1, rfl⟩ ?_ ?_ ?_
                      · as_aux_lemma =>
                          intro i9 v9 w8 w9 _ _ hb hG
                          match i9, hG with
                          | 0, h => exact h
                          | 1, h => exact h
                          | 2, h => exact h
                          | 3, h => exact h
                          | 4, h => exact h
                          | 5, h => exact h
                          | 6, h => exact h
                          | 7, h => exact h
                          | n + 8, h => exact h
                      · as_aux_lemma =>
                          intro i9 o9 ho a9 w9 hW hdf hsz hout haf
                          have ee10 := getq (show a9.tmps.getD 10 undef = Value.slice (some { block := gJm, off := 0 }) L.length cm from hout 10 (notDst_spec (by kernel_rfl)))
                          have ee18 := getq (show a9.tmps.getD 18 undef = Value.slice (some { block := gJf, off := 0 }) L.length cf from hout 18 (notDst_spec (by kernel_rfl)))
                          have ee19 := getq (show a9.tmps.getD 19 undef = Value.int IntKind.i64 ((j : Nat) : Int) from hout 19 (notDst_spec (by kernel_rfl)))
                          have hsz2 : a9.tmps.size = 245 := hsz
                          clear hout hsz hdf
                          match i9, ho, haf with
                          | 0, ho, haf =>
                            obtain rfl := Option.some.inj ho
                            refine skip_good _ (wanted_none rfl) ?_
                            clear haf ho hsz2
                            intro K hK
                            simp only [List.getElem_toArray, List.getElem_cons_zero] at hK ⊢
                            obtain ⟨nn, rfl⟩ := hW
                            go_simp
                            exact hK _ _ ⟨Below.refl _ _, ⟨nn, rfl⟩, rfl⟩
                          | 1, ho, haf =>
                            obtain rfl := Option.some.inj ho
                            refine skip_good _ (wanted_none rfl) ?_
                            clear haf ho hsz2
                            intro K hK
                            simp only [List.getElem_toArray, List.getElem_cons_succ, List.getElem_cons_zero] at hK ⊢
                            obtain ⟨nn, rfl⟩ := hW
                            go_simp
                            exact hK _ _ ⟨Below.refl _ _, ⟨nn, rfl⟩, rfl⟩
                          | 2, ho, haf =>
                            obtain rfl := Option.some.inj ho
                            have f0 := getq (show a9.tmps.getD 207 undef = Value.slice (some { block := gJf, off := 0 }) L.length cf from haf ⟨0, .data⟩ (by simp) rfl)
                            have f1 := getq (show a9.tmps.getD 208 undef = Value.int IntKind.i64 ((j : Nat) : Int) from haf ⟨1, .data⟩ (by simp) rfl)
                            refine skip_good _ (wanted_none rfl) ?_
                            clear haf ho hsz2
                            intro K hK
                            simp only [List.getElem_toArray, List.getElem_cons_succ, List.getElem_cons_zero] at hK ⊢
                            obtain ⟨nn, rfl⟩ := hW
                            go_simp
                            exact hK _ _ ⟨Below.refl _ _, ⟨nn, rfl⟩, rfl⟩
                          | 3, ho, haf =>
                            obtain rfl := Option.some.inj ho
                            have f2 := getq (show a9.tmps.getD 209 undef = .pointer (some ⟨gJf, j * 16, none⟩) from haf ⟨2, .data⟩ (by simp) rfl)
                            refine skip_good _ (wanted_none rfl) ?_
                            have hx0 : a9.eval (Operand.tmp 209) = .pointer (some ⟨gJf, j * 16, none⟩) := haf ⟨2, .data⟩ (by simp) rfl
                            clear haf ho hsz2
                            intro K hK
                            simp only [List.getElem_toArray, List.getElem_cons_succ, List.getElem_cons_zero] at hK ⊢
                            obtain ⟨nn, rfl⟩ := hW
                            exact wp_load_mid 43 _ rfl gJf (j * 16) hx0 (lcv x) _ (hrJf nn) Try.underlying43 rfl (by kernel_rfl) (hK _ _ ⟨Below.refl _ _, ⟨nn, rfl⟩, rfl⟩)
                          | 4, ho, haf =>
                            obtain rfl := Option.some.inj ho
                            refine skip_good _ (wanted_none rfl) ?_
                            clear haf ho hsz2
                            intro K hK
                            simp only [List.getElem_toArray, List.getElem_cons_succ, List.getElem_cons_zero] at hK ⊢
                            obtain ⟨nn, rfl⟩ := hW
                            go_simp
                            exact hK _ _ ⟨Below.refl _ _, ⟨nn, rfl⟩, rfl⟩
                          | 5, ho, haf =>
                            obtain rfl := Option.some.inj ho
                            refine skip_good _ (wanted_none rfl) ?_
                            clear haf ho hsz2
                            intro K hK
                            simp only [List.getElem_toArray, List.getElem_cons_succ, List.getElem_cons_zero] at hK ⊢
                            obtain ⟨nn, rfl⟩ := hW
                            go_simp
                            exact hK _ _ ⟨Below.refl _ _, ⟨nn, rfl⟩, rfl⟩
                          | 6, ho, haf =>
                            obtain rfl := Option.some.inj ho
                            have f4 := getq (show a9.tmps.getD 211 undef = Value.slice (some { block := gJm, off := 0 }) L.length cm from haf ⟨4, .data⟩ (by simp) rfl)
                            have f5 := getq (show a9.tmps.getD 212 undef = Value.int IntKind.i64 ((j : Nat) : Int) from haf ⟨5, .data⟩ (by simp) rfl)
                            refine skip_good _ (wanted_none rfl) ?_
                            clear haf ho hsz2
                            intro K hK
                            simp only [List.getElem_toArray, List.getElem_cons_succ, List.getElem_cons_zero] at hK ⊢
                            obtain ⟨nn, rfl⟩ := hW
                            go_simp
                            exact hK _ _ ⟨Below.refl _ _, ⟨nn, rfl⟩, rfl⟩
                          | 7, ho, haf =>
                            obtain rfl := Option.some.inj ho
                            have f6 := getq (show a9.tmps.getD 213 undef = .pointer (some ⟨gJm, j * 16, none⟩) from haf ⟨6, .data⟩ (by simp) rfl)
                            refine skip_good _ (wanted_none rfl) ?_
                            have hx0 : a9.eval (Operand.tmp 213) = .pointer (some ⟨gJm, j * 16, none⟩) := haf ⟨6, .data⟩ (by simp) rfl
                            clear haf ho hsz2
                            intro K hK
                            simp only [List.getElem_toArray, List.getElem_cons_succ, List.getElem_cons_zero] at hK ⊢
                            obtain ⟨nn, rfl⟩ := hW
                            exact wp_load_mid 43 _ rfl gJm (j * 16) hx0 (lcv x) _ (hrJm nn) Try.underlying43 rfl (by kernel_rfl) (hK _ _ ⟨Below.refl _ _, ⟨nn, rfl⟩, rfl⟩)
                          | 8, ho, haf =>
                            obtain rfl := Option.some.inj ho
                            have f3 := getq (show a9.tmps.getD 210 undef = .agg (lcv x).toArray from haf ⟨3, .data⟩ (by simp) rfl)
                            have f7 := getq (show a9.tmps.getD 214 undef = .agg (lcv x).toArray from haf ⟨7, .data⟩ (by simp) rfl)
                            refine skip_good _ (wanted_none rfl) ?_
                            clear haf ho hsz2
                            intro K hK
                            simp only [List.getElem_toArray, List.getElem_cons_succ, List.getElem_cons_zero] at hK ⊢
                            obtain ⟨nn, rfl⟩ := hW
                            go_simp
                            exact hK _ _ ⟨Below.refl _ _, ⟨nn, rfl⟩, rfl⟩
                          | n + 9, ho, haf => simp at ho
                      · as_aux_lemma =>
                          intro aa w9 hW hdf hsz hout hall
                          have hat : aa.tmps = #[Value.slice a l.length c, Value.slice ka zs.length kc, undef, undef, u4, Value.slice (some { block := w.heap.size, off := 0 }) l.length (l.length + 8), Value.slice (some { block := w1.heap.size, off := 0 }) (zs.length + 8) (zs.length + 8), Value.int IntKind.i64 ((zs.length : Nat) : Int), Value.slice ax L.length cx, Value.slice an L.length cn, Value.slice (some { block := gJm, off := 0 }) L.length cm, Value.int IntKind.i64 (((zs.length : Nat) : Int) + 8), Value.slice ao M.length co, Value.slice aq L.length cq, Value.int IntKind.i64 ((L.length : Nat) : Int), Value.slice aw M.length cw, Value.int IntKind.i64 ((M.length : Nat) : Int), Value.bool true, Value.slice (some { block := gJf, off := 0 }) L.length cf, Value.int IntKind.i64 ((j : Nat) : Int), undef, undef, Value.slice a l.length c, Value.slice (some { block := w.heap.size, off := 0 }) l.length (l.length + 8), Value.slice ka zs.length kc, Value.int IntKind.i64 ((zs.length : Nat) : Int), Value.int IntKind.i64 (((zs.length : Nat) : Int) + 8), Value.slice (some { block := w1.heap.size, off := 0 }) (zs.length + 8) (zs.length + 8), Value.int IntKind.i64 ((zs.length : Nat) : Int), Value.slice ka zs.length kc, Value.int IntKind.i64 ((zs.length : Nat) : Int), Value.bool false, u32, u33, u34, u35, u36, u37, u38, u39, u40, Value.slice (some { block := w.heap.size, off := 0 }) l.length (l.length + 8), Value.slice (some { block := w1.heap.size, off := 0 }) (zs.length + 8) (zs.length + 8), Value.slice ka zs.length kc, Value.int IntKind.i64 ((zs.length : Nat) : Int), Value.slice (some { block := w1.heap.size, off := 0 }) zs.length (zs.length + 8), Value.slice ax L.length cx, Value.slice (some { block := w.heap.size, off := 0 }) l.length (l.length + 8), Value.slice (some { block := w1.heap.size, off := 0 }) (zs.length + 8) (zs.length + 8), Value.slice ka zs.length kc, Value.int IntKind.i64 ((zs.length : Nat) : Int), Value.slice (some { block := w1.heap.size, off := 0 }) zs.length (zs.length + 8), Value.slice an L.length cn, Value.slice a l.length c, Value.slice ka zs.length kc, Value.slice (some { block := gJm, off := 0 }) L.length cm, Value.slice ax L.length cx, Value.int IntKind.i64 ((L.length : Nat) : Int), Value.slice (some { block := gJm, off := 0 }) L.length cm, Value.int IntKind.i64 ((L.length : Nat) : Int), Value.bool false, Value.bool false, Value.slice (some { block := w.heap.size, off := 0 }) l.length (l.length + 8), Value.slice a l.length c, Value.bool true, Value.bool false, Value.bool false, Value.int IntKind.i64 (((zs.length : Nat) : Int) + 8), Value.slice (some { block := w1.heap.size, off := 0 }) (zs.length + 8) (zs.length + 8), Value.int IntKind.i64 (((zs.length : Nat) : Int) + 8), Value.bool false, u71, u72, u73, u74, u75, u76, u77, u78, u79, u80, u81, u82, u83, u84, u85, u86, u87, u88, u89, u90, u91, u92, u93, u94, u95, u96, u97, u98, u99, u100, Value.slice (some { block := w.heap.size, off := 0 }) l.length (l.length + 8), Value.slice ao M.length co, Value.slice (some { block := w.heap.size, off := 0 }) l.length (l.length + 8), Value.slice (some { block := w1.heap.size, off := 0 }) (zs.length + 8) (zs.length + 8), Value.slice ka zs.length kc, Value.int IntKind.i64 ((zs.length : Nat) : Int), Value.slice (some { block := w1.heap.size, off := 0 }) zs.length (zs.length + 8), Value.slice aq L.length cq, Value.slice aq L.length cq, Value.int IntKind.i64 ((L.length : Nat) : Int), Value.slice (some { block := gJm, off := 0 }) L.length cm, Value.int IntKind.i64 ((L.length : Nat) : Int), Value.bool false, Value.bool false, Value.slice an L.length cn, Value.int IntKind.i64 ((L.length : Nat) : Int), Value.slice (some { block := gJm, off := 0 }) L.length cm, Value.int IntKind.i64 ((L.length : Nat) : Int), Value.bool false, Value.bool false, Value.int IntKind.i64 ((L.length : Nat) : Int), Value.slice ax L.length cx, Value.int IntKind.i64 ((L.length : Nat) : Int), Value.bool false, u125, u126, u127, u128, u129, u130, u131, u132, u133, u134, u135, u136, u137, u138, u139, u140, u141, u142, u143, u144, u145, u146, u147, u148, u149, u150, u151, u152, u153, u154, u155, u156, u157, Value.slice a l.length c, Value.slice aw M.length cw, Value.slice ao M.length co, Value.int IntKind.i64 ((M.length : Nat) : Int), Value.slice aw M.length cw, Value.int IntKind.i64 ((M.length : Nat) : Int), Value.bool false, Value.int IntKind.i64 ((M.length : Nat) : Int), Value.slice ao M.length co, Value.int IntKind.i64 ((M.length : Nat) : Int), Value.bool false, u169, u170, u171, u172, u173, u174, u175, u176, u177, u178, u179, Value.slice ax L.length cx, Value.slice an L.length cn, Value.slice ao M.length co, Value.slice aq L.length cq, Value.slice (some { block := w14.heap.size, off := 0 }) 4 4, Value.bool true, Value.slice (some { block := w.heap.size, off := 0 }) l.length (l.length + 8), Value.slice (some { block := w1.heap.size, off := 0 }) (zs.length + 8) (zs.length + 8), Value.slice ka zs.length kc, Value.int IntKind.i64 ((zs.length : Nat) : Int), Value.slice (some { block := w1.heap.size, off := 0 }) zs.length (zs.length + 8), Value.slice (some { block := gJf, off := 0 }) L.length cf, Value.bool true, Value.bool false, Value.bool false, Value.slice (some { block := gJf, off := 0 }) L.length cf, Value.int IntKind.i64 ((L.length : Nat) : Int), Value.slice (some { block := gJm, off := 0 }) L.length cm, Value.int IntKind.i64 ((L.length : Nat) : Int), Value.bool false, Value.bool false, Value.int IntKind.i64 ((j : Nat) : Int), Value.slice (some { block := gJf, off := 0 }) L.length cf, Value.int IntKind.i64 ((L.length : Nat) : Int), Value.bool true, u205, u206, Value.slice (some { block := gJf, off := 0 }) L.length cf, Value.int IntKind.i64 ((j : Nat) : Int), .pointer (some ⟨gJf, j * 16, none⟩), .agg (lcv x).toArray, Value.slice (some { block := gJm, off := 0 }) L.length cm, Value.int IntKind.i64 ((j : Nat) : Int), .pointer (some ⟨gJm, j * 16, none⟩), .agg (lcv x).toArray, .bool false, undef, undef, undef, undef, undef, undef, undef, undef, undef, undef, undef, undef, undef, undef, undef, undef, undef, undef, undef, undef, undef, undef, undef, undef, undef, undef, undef, undef, undef] := by
                            refine (tmps_of (lo := 207) (vs := [Value.slice (some { block := gJf, off := 0 }) L.length cf, Value.int IntKind.i64 ((j : Nat) : Int), .pointer (some ⟨gJf, j * 16, none⟩), .agg (lcv x).toArray, Value.slice (some { block := gJm, off := 0 }) L.length cm, Value.int IntKind.i64 ((j : Nat) : Int), .pointer (some ⟨gJm, j * 16, none⟩), .agg (lcv x).toArray, .bool false]) hsz (by kernel_rfl) (Nat.le_of_ble_eq_true (by kernel_rfl)) hout (fun i hi => ?_)).trans ?_
                            · match i, hi with
                              | 0, _ => exact hall 0 (by decide)
                              | 1, _ => exact hall 1 (by decide)
                              | 2, _ => exact hall 2 (by decide)
                              | 3, _ => exact hall 3 (by decide)
                              | 4, _ => exact hall 4 (by decide)
                              | 5, _ => exact hall 5 (by decide)
                              | 6, _ => exact hall 6 (by decide)
                              | 7, _ => exact hall 7 (by decide)
                              | 8, _ => exact hall 8 (by decide)
                              | n + 9, h => exact absurd h (by simp)
                            · rfl
                          obtain ⟨tt, dd⟩ := aa
                          simp only at hat hdf
                          subst hat hdf
                          clear hsz hout hall
                          obtain ⟨nn, rfl⟩ := hW
                          go_wp2_with fail
                          go_roundw
                          case rel => exact ⟨j + 1, _, HLT.out, by go_num, rfl⟩
                          case measure => have := HLT.out; simp [intOf]; omega
                    · have hji : ¬ ((j : Nat) : Int) < (L.length : Int) := by omega
                      obtain rfl : j = L.length := by omega
                      clear hj hlt
                      have HS17 := hd (HS16.out.keep (below_drewN (Below.refl _ _) n))
                      obtain ⟨w17, hw17⟩ : ∃ w17, w17 = w16.drewN n := ⟨_, rfl⟩
                      rw [← hw17] at HS17 ⊢
                      clear hw17 HS16 Jm Jf
                      go_wp2_with fail
                      refine Calls.mono (sturned_is w.heap.size (l.length + 8) l.length w.heap.size (mk8 l) w17 HS17.out.own (by rw [mk8_len]; omega) (Nat.le_refl _)) ?_
                      rintro e w18 ⟨⟨vt, rfl⟩, ⟨F, hFl, hGF⟩, bt⟩
                      have HB18 := hd (HS17.out.below.trans bt)
                      have HIF : Hid (IsB w18 (.slice (some ⟨w.heap.size, 0, none⟩) l.length (l.length + 8)) (F.take l.length)) := (hGF.isB rfl).take l.length (by rw [hFl, mk8_len]; omega)
                      have hFt : (F.take l.length).length ≤ 1048576 := by rw [List.length_take]; omega
                      obtain ⟨T, hT⟩ : ∃ T, T = F.take l.length := ⟨_, rfl⟩
                      rw [← hT] at HIF hFt
                      clear hGF bt hFl HS17 hT
                      go_wp2_with fail
                      refine Calls.mono (recordsQ _ T _ zs w18 HIF.out (HK.out.below (Nat.le_refl _) HB18.out) (by omega)) ?_
                      rintro e w19 ⟨⟨ae, ce, rfl, hce, je⟩, be⟩
                      obtain ⟨R, hRe⟩ : ∃ R, recs (kzs zs) T = R := ⟨_, rfl⟩
                      have hRl : R.length ≤ T.length := by rw [← hRe]; exact recs_len HIF.out.1
                      rw [hRe] at je hce ⊢
                      have HRE := hd hRe
                      have HIF := hd (HIF.out.below be)
                      have HB19 := hd (HB18.out.trans (be.mono HB18.out.size))
                      have Je := hd je
                      clear hRe je be HB18
                      go_wp2_with fail
                      refine Calls.mono (rrecordsQ _ T _ zs w19 HIF.out (HK.out.below (Nat.le_refl _) HB19.out) (by omega)) ?_
                      rintro e w20 ⟨⟨au, cu, rfl, hcu, ju⟩, bu⟩
                      rw [HRE.out] at ju hcu ⊢
                      have HB20 := hd (HB19.out.trans (bu.mono HB19.out.size))
                      have Je := hd (Je.out.keepAll bu)
                      have Ju := hd ju
                      clear ju bu HB19 HIF
                      go_wp2_with fail
                      go_loopw [21] (fun x wr => ∃ (j n : Nat), j ≤ R.length ∧ x = .int .i64 (j : Int) ∧ wr = w20.drewN n) (fun x _ => R.length - (intOf x).toNat)
                      case atStart => exact ⟨0, 0, by omega, rfl, rfl⟩
                      case round =>
                        obtain ⟨j, n, hj, rfl, rfl⟩ := hrel
                        by_cases hlt : j < R.length
                        · have hji : ((j : Nat) : Int) < (R.length : Int) := by omega
                          have HLT : Hid (j + 1 ≤ R.length) := hlt
                          obtain ⟨x, hx⟩ : ∃ x, R[j]? = some x := ⟨_, List.getElem?_eq_getElem hlt⟩
                          have hne : ∀ ww, (binOp .neq 43 (.agg (lcv x).toArray) (.agg (lcv x).toArray)).run Try.prog ww = .ok (.bool false) ww := fun ww => neq_lc x ww
                          obtain ⟨gJe, haJe, hrJe⟩ := jl_rowN Je.out hx
                          subst haJe
                          obtain ⟨gJu, haJu, hrJu⟩ := jl_rowN Ju.out hx
                          subst haJu
                          clear hj hx
                          go_wp2_with fail
                          refine region_skip (fun i9 v9 _ => match i9 with
                              | 0 => v9 = Value.slice (some { block := gJe, off := 0 }) R.length ce
                              | 1 => v9 = Value.int IntKind.i64 ((j : Nat) : Int)
                              | 2 => v9 = .pointer (some ⟨gJe, j * 16, none⟩)
                              | 3 => v9 = .agg (lcv x).toArray
                              | 4 => v9 = Value.slice (some { block := gJu, off := 0 }) R.length cu
                              | 5 => v9 = Value.int IntKind.i64 ((j : Nat) : Int)
                              | 6 => v9 = .pointer (some ⟨gJu, j * 16, none⟩)
                              | 7 => v9 = .agg (lcv x).toArray
                              | _ => v9 = .bool false) (fun w => ∃ nn, w = w20.drewN nn) hmx (by kernel_rfl) (by kernel_rfl) ⟨n + 1, rfl⟩ ?_ ?_ ?_
                          · as_aux_lemma =>
                              intro i9 v9 w8 w9 _ _ hb hG
                              match i9, hG with
                              | 0, h => exact h
                              | 1, h => exact h
                              | 2, h => exact h
                              | 3, h => exact h
                              | 4, h => exact h
                              | 5, h => exact h
                              | 6, h => exact h
                              | 7, h => exact h
                              | n + 8, h => exact h
                          · as_aux_lemma =>
                              intro i9 o9 ho a9 w9 hW hdf hsz hout haf
                              have ee15 := getq (show a9.tmps.getD 15 undef = Value.slice (some { block := gJu, off := 0 }) R.length cu from hout 15 (notDst_spec (by kernel_rfl)))
                              have ee20 := getq (show a9.tmps.getD 20 undef = Value.slice (some { block := gJe, off := 0 }) R.length ce from hout 20 (notDst_spec (by kernel_rfl)))
                              have ee21 := getq (show a9.tmps.getD 21 undef = Value.int IntKind.i64 ((j : Nat) : Int) from hout 21 (notDst_spec (by kernel_rfl)))
                              have hsz2 : a9.tmps.size = 245 := hsz
                              clear hout hsz hdf
                              match i9, ho, haf with
                              | 0, ho, haf =>
                                obtain rfl := Option.some.inj ho
                                refine skip_good _ (wanted_none rfl) ?_
                                clear haf ho hsz2
                                intro K hK
                                simp only [List.getElem_toArray, List.getElem_cons_zero] at hK ⊢
                                obtain ⟨nn, rfl⟩ := hW
                                go_simp
                                exact hK _ _ ⟨Below.refl _ _, ⟨nn, rfl⟩, rfl⟩
                              | 1, ho, haf =>
                                obtain rfl := Option.some.inj ho
                                refine skip_good _ (wanted_none rfl) ?_
                                clear haf ho hsz2
                                intro K hK
                                simp only [List.getElem_toArray, List.getElem_cons_succ, List.getElem_cons_zero] at hK ⊢
                                obtain ⟨nn, rfl⟩ := hW
                                go_simp
                                exact hK _ _ ⟨Below.refl _ _, ⟨nn, rfl⟩, rfl⟩
                              | 2, ho, haf =>
                                obtain rfl := Option.some.inj ho
                                have f0 := getq (show a9.tmps.getD 235 undef = Value.slice (some { block := gJe, off := 0 }) R.length ce from haf ⟨0, .data⟩ (by simp) rfl)
                                have f1 := getq (show a9.tmps.getD 236 undef = Value.int IntKind.i64 ((j : Nat) : Int) from haf ⟨1, .data⟩ (by simp) rfl)
                                refine skip_good _ (wanted_none rfl) ?_
                                clear haf ho hsz2
                                intro K hK
                                simp only [List.getElem_toArray, List.getElem_cons_succ, List.getElem_cons_zero] at hK ⊢
                                obtain ⟨nn, rfl⟩ := hW
                                go_simp
                                exact hK _ _ ⟨Below.refl _ _, ⟨nn, rfl⟩, rfl⟩
                              | 3, ho, haf =>
                                obtain rfl := Option.some.inj ho
                                have f2 := getq (show a9.tmps.getD 237 undef = .pointer (some ⟨gJe, j * 16, none⟩) from haf ⟨2, .data⟩ (by simp) rfl)
                                refine skip_good _ (wanted_none rfl) ?_
                                have hx0 : a9.eval (Operand.tmp 237) = .pointer (some ⟨gJe, j * 16, none⟩) := haf ⟨2, .data⟩ (by simp) rfl
                                clear haf ho hsz2
                                intro K hK
                                simp only [List.getElem_toArray, List.getElem_cons_succ, List.getElem_cons_zero] at hK ⊢
                                obtain ⟨nn, rfl⟩ := hW
                                exact wp_load_mid 43 _ rfl gJe (j * 16) hx0 (lcv x) _ (hrJe nn) Try.underlying43 rfl (by kernel_rfl) (hK _ _ ⟨Below.refl _ _, ⟨nn, rfl⟩, rfl⟩)
                              | 4, ho, haf =>
                                obtain rfl := Option.some.inj ho
                                refine skip_good _ (wanted_none rfl) ?_
                                clear haf ho hsz2
                                intro K hK
                                simp only [List.getElem_toArray, List.getElem_cons_succ, List.getElem_cons_zero] at hK ⊢
                                obtain ⟨nn, rfl⟩ := hW
                                go_simp
                                exact hK _ _ ⟨Below.refl _ _, ⟨nn, rfl⟩, rfl⟩
                              | 5, ho, haf =>
                                obtain rfl := Option.some.inj ho
                                refine skip_good _ (wanted_none rfl) ?_
                                clear haf ho hsz2
                                intro K hK
                                simp only [List.getElem_toArray, List.getElem_cons_succ, List.getElem_cons_zero] at hK ⊢
                                obtain ⟨nn, rfl⟩ := hW
                                go_simp
                                exact hK _ _ ⟨Below.refl _ _, ⟨nn, rfl⟩, rfl⟩
                              | 6, ho, haf =>
                                obtain rfl := Option.some.inj ho
                                have f4 := getq (show a9.tmps.getD 239 undef = Value.slice (some { block := gJu, off := 0 }) R.length cu from haf ⟨4, .data⟩ (by simp) rfl)
                                have f5 := getq (show a9.tmps.getD 240 undef = Value.int IntKind.i64 ((j : Nat) : Int) from haf ⟨5, .data⟩ (by simp) rfl)
                                refine skip_good _ (wanted_none rfl) ?_
                                clear haf ho hsz2
                                intro K hK
                                simp only [List.getElem_toArray, List.getElem_cons_succ, List.getElem_cons_zero] at hK ⊢
                                obtain ⟨nn, rfl⟩ := hW
                                go_simp
                                exact hK _ _ ⟨Below.refl _ _, ⟨nn, rfl⟩, rfl⟩
                              | 7, ho, haf =>
                                obtain rfl := Option.some.inj ho
                                have f6 := getq (show a9.tmps.getD 241 undef = .pointer (some ⟨gJu, j * 16, none⟩) from haf ⟨6, .data⟩ (by simp) rfl)
                                refine skip_good _ (wanted_none rfl) ?_
                                have hx0 : a9.eval (Operand.tmp 241) = .pointer (some ⟨gJu, j * 16, none⟩) := haf ⟨6, .data⟩ (by simp) rfl
                                clear haf ho hsz2
                                intro K hK
                                simp only [List.getElem_toArray, List.getElem_cons_succ, List.getElem_cons_zero] at hK ⊢
                                obtain ⟨nn, rfl⟩ := hW
                                exact wp_load_mid 43 _ rfl gJu (j * 16) hx0 (lcv x) _ (hrJu nn) Try.underlying43 rfl (by kernel_rfl) (hK _ _ ⟨Below.refl _ _, ⟨nn, rfl⟩, rfl⟩)
                              | 8, ho, haf =>
                                obtain rfl := Option.some.inj ho
                                have f3 := getq (show a9.tmps.getD 238 undef = .agg (lcv x).toArray from haf ⟨3, .data⟩ (by simp) rfl)
                                have f7 := getq (show a9.tmps.getD 242 undef = .agg (lcv x).toArray from haf ⟨7, .data⟩ (by simp) rfl)
                                refine skip_good _ (wanted_none rfl) ?_
                                clear haf ho hsz2
                                intro K hK
                                simp only [List.getElem_toArray, List.getElem_cons_succ, List.getElem_cons_zero] at hK ⊢
                                obtain ⟨nn, rfl⟩ := hW
                                go_simp
                                exact hK _ _ ⟨Below.refl _ _, ⟨nn, rfl⟩, rfl⟩
                              | n + 9, ho, haf => simp at ho
                          · as_aux_lemma =>
                              intro aa w9 hW hdf hsz hout hall
                              have hat : aa.tmps = #[Value.slice a l.length c, Value.slice ka zs.length kc, undef, undef, u4, Value.slice (some { block := w.heap.size, off := 0 }) l.length (l.length + 8), Value.slice (some { block := w1.heap.size, off := 0 }) (zs.length + 8) (zs.length + 8), Value.int IntKind.i64 ((zs.length : Nat) : Int), Value.slice ax L.length cx, Value.slice an L.length cn, Value.slice am L.length cm, Value.int IntKind.i64 (((zs.length : Nat) : Int) + 8), Value.slice ao M.length co, Value.slice aq L.length cq, Value.int IntKind.i64 ((L.length : Nat) : Int), Value.slice (some { block := gJu, off := 0 }) R.length cu, Value.int IntKind.i64 ((M.length : Nat) : Int), Value.bool true, Value.slice af L.length cf, Value.int IntKind.i64 ((L.length : Nat) : Int), Value.slice (some { block := gJe, off := 0 }) R.length ce, Value.int IntKind.i64 ((j : Nat) : Int), Value.slice a l.length c, Value.slice (some { block := w.heap.size, off := 0 }) l.length (l.length + 8), Value.slice ka zs.length kc, Value.int IntKind.i64 ((zs.length : Nat) : Int), Value.int IntKind.i64 (((zs.length : Nat) : Int) + 8), Value.slice (some { block := w1.heap.size, off := 0 }) (zs.length + 8) (zs.length + 8), Value.int IntKind.i64 ((zs.length : Nat) : Int), Value.slice ka zs.length kc, Value.int IntKind.i64 ((zs.length : Nat) : Int), Value.bool false, u32, u33, u34, u35, u36, u37, u38, u39, u40, Value.slice (some { block := w.heap.size, off := 0 }) l.length (l.length + 8), Value.slice (some { block := w1.heap.size, off := 0 }) (zs.length + 8) (zs.length + 8), Value.slice ka zs.length kc, Value.int IntKind.i64 ((zs.length : Nat) : Int), Value.slice (some { block := w1.heap.size, off := 0 }) zs.length (zs.length + 8), Value.slice ax L.length cx, Value.slice (some { block := w.heap.size, off := 0 }) l.length (l.length + 8), Value.slice (some { block := w1.heap.size, off := 0 }) (zs.length + 8) (zs.length + 8), Value.slice ka zs.length kc, Value.int IntKind.i64 ((zs.length : Nat) : Int), Value.slice (some { block := w1.heap.size, off := 0 }) zs.length (zs.length + 8), Value.slice an L.length cn, Value.slice a l.length c, Value.slice ka zs.length kc, Value.slice am L.length cm, Value.slice ax L.length cx, Value.int IntKind.i64 ((L.length : Nat) : Int), Value.slice am L.length cm, Value.int IntKind.i64 ((L.length : Nat) : Int), Value.bool false, Value.bool false, Value.slice (some { block := w.heap.size, off := 0 }) l.length (l.length + 8), Value.slice a l.length c, Value.bool true, Value.bool false, Value.bool false, Value.int IntKind.i64 (((zs.length : Nat) : Int) + 8), Value.slice (some { block := w1.heap.size, off := 0 }) (zs.length + 8) (zs.length + 8), Value.int IntKind.i64 (((zs.length : Nat) : Int) + 8), Value.bool false, u71, u72, u73, u74, u75, u76, u77, u78, u79, u80, u81, u82, u83, u84, u85, u86, u87, u88, u89, u90, u91, u92, u93, u94, u95, u96, u97, u98, u99, u100, Value.slice (some { block := w.heap.size, off := 0 }) l.length (l.length + 8), Value.slice ao M.length co, Value.slice (some { block := w.heap.size, off := 0 }) l.length (l.length + 8), Value.slice (some { block := w1.heap.size, off := 0 }) (zs.length + 8) (zs.length + 8), Value.slice ka zs.length kc, Value.int IntKind.i64 ((zs.length : Nat) : Int), Value.slice (some { block := w1.heap.size, off := 0 }) zs.length (zs.length + 8), Value.slice aq L.length cq, Value.slice aq L.length cq, Value.int IntKind.i64 ((L.length : Nat) : Int), Value.slice am L.length cm, Value.int IntKind.i64 ((L.length : Nat) : Int), Value.bool false, Value.bool false, Value.slice an L.length cn, Value.int IntKind.i64 ((L.length : Nat) : Int), Value.slice am L.length cm, Value.int IntKind.i64 ((L.length : Nat) : Int), Value.bool false, Value.bool false, Value.int IntKind.i64 ((L.length : Nat) : Int), Value.slice ax L.length cx, Value.int IntKind.i64 ((L.length : Nat) : Int), Value.bool false, u125, u126, u127, u128, u129, u130, u131, u132, u133, u134, u135, u136, u137, u138, u139, u140, u141, u142, u143, u144, u145, u146, u147, u148, u149, u150, u151, u152, u153, u154, u155, u156, u157, Value.slice a l.length c, Value.slice aw M.length cw, Value.slice ao M.length co, Value.int IntKind.i64 ((M.length : Nat) : Int), Value.slice aw M.length cw, Value.int IntKind.i64 ((M.length : Nat) : Int), Value.bool false, Value.int IntKind.i64 ((M.length : Nat) : Int), Value.slice ao M.length co, Value.int IntKind.i64 ((M.length : Nat) : Int), Value.bool false, u169, u170, u171, u172, u173, u174, u175, u176, u177, u178, u179, Value.slice ax L.length cx, Value.slice an L.length cn, Value.slice ao M.length co, Value.slice aq L.length cq, Value.slice (some { block := w14.heap.size, off := 0 }) 4 4, Value.bool true, Value.slice (some { block := w.heap.size, off := 0 }) l.length (l.length + 8), Value.slice (some { block := w1.heap.size, off := 0 }) (zs.length + 8) (zs.length + 8), Value.slice ka zs.length kc, Value.int IntKind.i64 ((zs.length : Nat) : Int), Value.slice (some { block := w1.heap.size, off := 0 }) zs.length (zs.length + 8), Value.slice af L.length cf, Value.bool true, Value.bool false, Value.bool false, Value.slice af L.length cf, Value.int IntKind.i64 ((L.length : Nat) : Int), Value.slice am L.length cm, Value.int IntKind.i64 ((L.length : Nat) : Int), Value.bool false, Value.bool false, Value.int IntKind.i64 ((L.length : Nat) : Int), Value.slice af L.length cf, Value.int IntKind.i64 ((L.length : Nat) : Int), Value.bool false, u205, u206, u207, u208, u209, u210, u211, u212, u213, u214, u215, Value.slice (some { block := w.heap.size, off := 0 }) l.length (l.length + 8), vt, Value.slice (some { block := w.heap.size, off := 0 }) l.length (l.length + 8), Value.slice ka zs.length kc, Value.slice (some { block := gJe, off := 0 }) R.length ce, Value.slice (some { block := w.heap.size, off := 0 }) l.length (l.length + 8), Value.slice ka zs.length kc, Value.slice (some { block := gJu, off := 0 }) R.length cu, Value.slice (some { block := gJe, off := 0 }) R.length ce, Value.int IntKind.i64 ((R.length : Nat) : Int), Value.slice (some { block := gJu, off := 0 }) R.length cu, Value.int IntKind.i64 ((R.length : Nat) : Int), Value.bool false, Value.int IntKind.i64 ((j : Nat) : Int), Value.slice (some { block := gJe, off := 0 }) R.length ce, Value.int IntKind.i64 ((R.length : Nat) : Int), Value.bool true, u233, u234, Value.slice (some { block := gJe, off := 0 }) R.length ce, Value.int IntKind.i64 ((j : Nat) : Int), .pointer (some ⟨gJe, j * 16, none⟩), .agg (lcv x).toArray, Value.slice (some { block := gJu, off := 0 }) R.length cu, Value.int IntKind.i64 ((j : Nat) : Int), .pointer (some ⟨gJu, j * 16, none⟩), .agg (lcv x).toArray, .bool false, undef] := by
                                refine (tmps_of (lo := 235) (vs := [Value.slice (some { block := gJe, off := 0 }) R.length ce, Value.int IntKind.i64 ((j : Nat) : Int), .pointer (some ⟨gJe, j * 16, none⟩), .agg (lcv x).toArray, Value.slice (some { block := gJu, off := 0 }) R.length cu, Value.int IntKind.i64 ((j : Nat) : Int), .pointer (some ⟨gJu, j * 16, none⟩), .agg (lcv x).toArray, .bool false]) hsz (by kernel_rfl) (Nat.le_of_ble_eq_true (by kernel_rfl)) hout (fun i hi => ?_)).trans ?_
                                · match i, hi with
                                  | 0, _ => exact hall 0 (by decide)
                                  | 1, _ => exact hall 1 (by decide)
                                  | 2, _ => exact hall 2 (by decide)
                                  | 3, _ => exact hall 3 (by decide)
                                  | 4, _ => exact hall 4 (by decide)
                                  | 5, _ => exact hall 5 (by decide)
                                  | 6, _ => exact hall 6 (by decide)
                                  | 7, _ => exact hall 7 (by decide)
                                  | 8, _ => exact hall 8 (by decide)
                                  | n + 9, h => exact absurd h (by simp)
                                · rfl
                              obtain ⟨tt, dd⟩ := aa
                              simp only at hat hdf
                              subst hat hdf
                              clear hsz hout hall
                              obtain ⟨nn, rfl⟩ := hW
                              go_wp2_with fail
                              go_roundw
                              case rel => exact ⟨j + 1, _, HLT.out, by go_num, rfl⟩
                              case measure => have := HLT.out; simp [intOf]; omega
                        · have hji : ¬ ((j : Nat) : Int) < (R.length : Int) := by omega
                          obtain rfl : j = R.length := by omega
                          clear hj hlt
                          go_wp2_with fail
                          refine Calls.mono (works_is _) ?_
                          rintro e w21 ⟨rfl, bw⟩
                          have HB21 := hd ((below_drewN HB20.out n).trans (bw.mono (below_drewN HB20.out n).size))
                          clear bw
                          go_wp2_with fail
                          go_ret
                          exact ⟨rfl, HB21.out⟩
end Os
end Go.Proofs.Ytifjjoobbegpoaa
