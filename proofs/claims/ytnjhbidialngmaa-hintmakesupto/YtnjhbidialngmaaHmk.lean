/-
  HintMakes' walk: Of says what the document's Of says, of any bytes; lists that came out are each their owner's.
-/
import Derived.Test.YtnjhbidialngmaaXhbs
import Derived.Test.YtnjhbidialngmaaXhbv
import Derived.Test.YtnjhbidialngmaaXhbw
import Derived.Test.YtnjhbidialngmaaXhbu
import Derived.Test.YtnjhbidialngmaaXhbz
import Derived.Test.YtnjhbidialngmaaXhbq
namespace Go.Proofs.Ytnjhbidialngmaa
open Go.ChangeShapes Go.WideShapes Go.ChangeAt Go.RowKit Go.Shelf
namespace Os
open Vt Ow
open Classical in
/-- what Of tells -/
noncomputable def oL (l : List Nat) : List Nat := if May l then hof l else []
open Classical in
/-- and its code -/
noncomputable def oE (l : List Nat) : Nat := if May l then 0 else 100
/-- what a call of Of leaves -/
def OfQ (l : List Nat) (w : World) (e : Ending) (w' : World) : Prop := (∃ a c, e = .returned (.tuple #[.slice a (oL l).length c, .int .i64 ((oE l : Nat) : Int)]) ∧ JB w' w.heap.size (.slice a (oL l).length c) (oL l)) ∧ Below w.heap.size w w'
theorem ofQ_of {l : List Nat} {w : World} {e : Ending} {w' : World} (h : ((May l ∧ ∃ u, e = .returned (.tuple #[u, .int .i64 0]) ∧ JB w' w.heap.size u (hof l)) ∨ (¬ May l ∧ e = .returned (.tuple #[.slice none 0 0, .int .i64 100]))) ∧ Below w.heap.size w w') : OfQ l w e w' := by
  obtain ⟨h1, h2⟩ := h
  refine ⟨?_, h2⟩
  unfold oL oE
  rcases h1 with ⟨m, u, he, hj⟩ | ⟨m, he⟩
  · rw [if_pos m, if_pos m]
    obtain ⟨a, c, rfl, _⟩ := hj.shape
    exact ⟨a, c, he, hj⟩
  · rw [if_neg m, if_neg m]
    exact ⟨none, 0, he, ⟨byt_nil, own_nil _ _⟩⟩
theorem hofQ (v : Value) (l : List Nat) (w : World) (hI : IsB w v l) : Calls Try.prog 17 #[v] w (OfQ l w) :=
  Calls.mono (hof_is v l w hI) fun _ _ h => ofQ_of h
theorem rofQ (v : Value) (l : List Nat) (w : World) (hI : IsB w v l) (hl : l.length ≤ 16777216) : Calls Try.prog 18 #[v] w (OfQ l w) :=
  Calls.mono (r10_of v l w hI hl) fun _ _ h => ofQ_of h
theorem oL_len {l : List Nat} (hb : Byt l) : (oL l).length ≤ 20000000000 := by
  unfold oL
  split
  · rename_i m
    have hn := locs_len hb _ (Nat.le_refl _) 0
    have h1 := hbs_len (L := locs 0 l) (fun y hy => hfr_ok hb m.1 hy (m.2.2 y hy))
    have ok := ffr_ok hb m.1
    have h2 := en_small ok.2 ok.1
    have h3 := m.1
    unfold hof
    rw [List.length_append]
    omega
  · simp
/-- bytes as rows of one cell -/
def br (l : List Nat) : List (List Value) := l.map fun x => [.int .u8 ((x : Nat) : Int)]
theorem br_len (l : List Nat) : (br l).length = l.length := List.length_map _
theorem jr_of {w : World} {base : Nat} {v : Value} {l : List Nat} (h : JB w base v l) : JR E8 1 w base v (br l) := by
  have hf : (br l).flatten = bs l := by
    unfold br bs
    clear h
    induction l with
    | nil => rfl
    | cons x r ih => rw [List.map_cons, List.flatten_cons, ih]; rfl
  refine ⟨fun r hr => ?_, ?_⟩
  · obtain ⟨x, _, rfl⟩ := List.mem_map.1 hr
    exact ⟨rfl, fun u hu => by rw [List.mem_singleton.1 hu]; rfl⟩
  · rw [hf, br_len]; exact h.2
/-- what stands while the lists are asked for: the bytes, the lent ones -/
structure HB (w : World) (N1 : Nat) (a : Option Addr) (c g gc : Nat) (l F : List Nat) (wk : World) : Prop where
  data : IsB wk (.slice a l.length c) l
  own : JB wk N1 (.slice (some ⟨g, 0, none⟩) (F.length + 2) gc) (F ++ [167, 90])
  below : Below w.heap.size w wk
theorem HB.keep {w : World} {N1 : Nat} {a : Option Addr} {c g gc : Nat} {l F : List Nat} {wk w' : World} (h : HB w N1 a c g gc l F wk) (hb : Below wk.heap.size wk w') : HB w N1 a c g gc l F w' :=
  ⟨h.data.below hb, h.own.keepAll hb, h.below.trans (hb.mono h.below.size)⟩
theorem HB.lent {w : World} {N1 : Nat} {a : Option Addr} {c g gc : Nat} {l F : List Nat} {wk : World} (h : HB w N1 a c g gc l F wk) {n : Nat} (hn : F.length = n) : IsB wk (.slice (some ⟨g, 0, none⟩) n gc) F := by
  rw [← hn]; exact lent2_isB h.own
/-- the marks -/
def mkb (i : Nat) : List Value := [.int .u8 ((i + 1 : Nat) : Int)]
theorem mkb_one (i : Nat) : ∀ u ∈ mkb i, u.oneCell' = true := by
  intro u hu
  rw [List.mem_singleton.1 hu]; rfl
/-- all that is known while the lists are written full -/
structure M1 (w : World) (base : Nat) (B : Nat) (vs : List Value) (f : Nat → List (List Value)) (wr : World) (i k : Nat) : Prop where
  in1 : In1R E8 1 mkb w base vs f wr i k
  list : JV ES wr base (.slice (some ⟨B, 0, none⟩) 4 4) vs
theorem M1.put {w : World} {base B : Nat} {vs : List Value} {f : Nat → List (List Value)} {wr : World} {i k : Nat} (h : M1 w base B vs f wr i k) (hi : i < vs.length) (hk : k < (f i).length) {g n c : Nat} (hv : vs.getD i nil = .slice (some ⟨g, 0, none⟩) n c) : M1 w base B vs f (wr.setCell ⟨g, k, none⟩ (.int .u8 ((i + 1 : Nat) : Int))) i (k + 1) := by
  have h1 := h.in1.put hi hk hv rfl (mkb_one i)
  have h2 := h.in1.rows.jv (by decide) h.list hi hv (p := k * 1) (mkb i)
  rw [Nat.mul_one] at h1 h2
  exact ⟨h1, h2⟩
theorem M1.next {w : World} {base B : Nat} {vs : List Value} {f : Nat → List (List Value)} {wr : World} {i k : Nat} (h : M1 w base B vs f wr i k) (hk : k = (f i).length) : M1 w base B vs f wr (i + 1) 0 := ⟨h.in1.next hk, h.list⟩
/-- the four lists -/
theorem four_rows {w : World} {base : Nat} {a b c d : Value} {x y : List (List Value)} (h0 : JR E8 1 w base a x) (h1 : JR E8 1 w base b y) (h2 : JR E8 1 w base c x) (h3 : JR E8 1 w base d x) (ab : ∀ g, a.ownBlock = some g → b.ownBlock ≠ some g) (ac : ∀ g, a.ownBlock = some g → c.ownBlock ≠ some g) (ad : ∀ g, a.ownBlock = some g → d.ownBlock ≠ some g) (bc : ∀ g, b.ownBlock = some g → c.ownBlock ≠ some g) (bd : ∀ g, b.ownBlock = some g → d.ownBlock ≠ some g) (cd : ∀ g, c.ownBlock = some g → d.ownBlock ≠ some g) :
    RSR E8 1 w base [a, b, c, d] (fun t => if t = 1 then y else x) := by
  have four : ∀ i, i < [a, b, c, d].length → i = 0 ∨ i = 1 ∨ i = 2 ∨ i = 3 := fun i hi => by simp at hi; omega
  refine ⟨fun i hi => ?_, fun i j g hi hj hij hg hq => ?_⟩
  · rcases four i hi with rfl | rfl | rfl | rfl
    · exact h0
    · exact h1
    · exact h2
    · exact h3
  · rcases four i hi with rfl | rfl | rfl | rfl <;> rcases four j hj with rfl | rfl | rfl | rfl
    · exact hij rfl
    · exact ab g hg hq
    · exact ac g hg hq
    · exact ad g hg hq
    · exact ab g hq hg
    · exact hij rfl
    · exact bc g hg hq
    · exact bd g hg hq
    · exact ac g hq hg
    · exact bc g hq hg
    · exact hij rfl
    · exact cd g hg hq
    · exact ad g hq hg
    · exact bd g hq hg
    · exact cd g hq hg
    · exact hij rfl
/-- two rows that were made one behind the other -/
theorem jr_apart2 {E : TypeId} {sz : Nat} {w2 : World} {n b2 : Nat} {v1 v2 : Value} {x2 : List (List Value)} (h1 : ∀ b, v1.ownBlock = some b → b < n) (h2 : JR E sz w2 b2 v2 x2) (h : n ≤ b2) : ∀ g, v1.ownBlock = some g → v2.ownBlock ≠ some g := by
  intro g e1 e2
  have := h1 g e1
  have := h2.blk_ge g e2
  omega
theorem jr_apart3 {E : TypeId} {sz : Nat} {w2 : World} {n b2 : Nat} {v1 v2 : Value} {x2 : List (List Value)} (h1 : ∀ b, v1.ownBlock = some b → b < n) (h2 : JR E sz w2 b2 v2 x2) (h : n ≤ b2) : ∀ g, v2.ownBlock = some g → v1.ownBlock ≠ some g := fun g e1 e2 => jr_apart2 h1 h2 h g e2 e1
theorem lists_new (w : World) (base m : Nat) (a b c d : Value) (hm : w.heap.size = m) (hb : base ≤ m) (h1 : ∀ u ∈ [a, b, c, d], u.oneCell' = true) : JV ES (w.alloc (.cells #[a, b, c, d] ES)) base (.slice (some ⟨m, 0, none⟩) 4 4) [a, b, c, d] := by
  subst hm
  have hblk : Blk (w.alloc (.cells #[a, b, c, d] ES)) w.heap.size ES [a, b, c, d] := Blk.new w ES [a, b, c, d]
  exact ⟨h1, rfl, .inr ⟨w.heap.size, 4, #[a, b, c, d], rfl, hb, hblk, by simp, by simp [maxLen], rfl, rfl⟩⟩
theorem M1.cells {w : World} {base B : Nat} {vs : List Value} {f : Nat → List (List Value)} {wr : World} {i k : Nat} (h : M1 w base B vs f wr i k) (hi : i < vs.length) (hk : k ≤ (f i).length) : ∃ a3 c3, vs.getD i Ow.nil = .slice a3 (f i).length c3 ∧ (f i).length ≤ c3 ∧ wr.cell? ⟨B, i, none⟩ = some (.slice a3 (f i).length c3) ∧ (k < (f i).length → ∃ g3, a3 = some ⟨g3, 0, none⟩) := by
  have hcl := (h.list.at.2.2.2.2.2 i _ (getD_at hi)).1
  have hrow := h.in1.rows.row i hi
  obtain ⟨a3, c3, hv3, hle3⟩ := hrow.shape
  rw [wrg_len mkb f i k i hk] at hv3 hle3
  rw [hv3] at hcl
  refine ⟨a3, c3, hv3, hle3, hcl, fun hlt => ?_⟩
  obtain ⟨g3, c', e, _⟩ := hrow.nn (by intro e; have := wrg_len mkb f i k i hk; rw [e] at this; simp at this; omega)
  rw [hv3] at e
  injection e with e
  exact ⟨g3, e⟩
theorem M1.there {w : World} {base B : Nat} {vs : List Value} {f : Nat → List (List Value)} {wr : World} {i k : Nat} (h : M1 w base B vs f wr i k) (hi : i < vs.length) (hk : k < (f i).length) {g n c : Nat} (hv : vs.getD i Ow.nil = .slice (some ⟨g, 0, none⟩) n c) : (∃ u, wr.cell? ⟨g, k, none⟩ = some u) ∧ wr.frozen? ⟨g, k, none⟩ = false := by
  have hrow := h.in1.rows.row i hi
  rw [hv] at hrow
  have ht := jr_thereR hrow (k := k) (by rw [wrg_len mkb f i k i (by omega)]; exact hk)
  have h0 := ht 0 (by decide)
  rw [Nat.mul_one, Nat.add_zero] at h0
  exact ⟨Option.isSome_iff_exists.1 h0.1, h0.2⟩
/-- all that is known while the lists are made longer -/
structure M2 (w : World) (base : Nat) (vs : List Value) (f : Nat → List (List Value)) (wr : World) (i : Nat) (gs : List Value) (LV : Value) : Prop where
  in2 : In2R E8 1 mkb w base vs f wr i gs
  list : JV ES wr base LV (vs ++ gs)
  fresh : ∀ b, LV.ownBlock = some b → w.heap.size ≤ b
theorem M2.listX {w : World} {base : Nat} {vs : List Value} {f : Nat → List (List Value)} {W wk : World} {i : Nat} {gs : List Value} {LV gv : Value} {k : Nat} (h : M2 w base vs f W i gs LV) (hi : i < vs.length) (hx : ExtR E8 1 W base (vs.getD i nil) (fug mkb f i) (mkb i) k gv wk) : JV ES wk base LV (vs ++ gs) := h.in2.rows.jvx (by decide) h.list hi hx
theorem M2.step {w : World} {base : Nat} {vs : List Value} {f : Nat → List (List Value)} {W wk w' : World} {i : Nat} {gs : List Value} {LV LV' gv : Value} {o : Obj} (h : M2 w base vs f W i gs LV) (hbase : base ≤ w.heap.size) (hi : i < vs.length)
    (hx : ExtR E8 1 W base (vs.getD i nil) (fug mkb f i) (mkb i) 64 gv wk) (hp : AppPost ES (wk.alloc o) base LV (vs ++ gs) gv LV' w') : M2 w base vs f w' (i + 1) (gs ++ [gv]) LV' := by
  have hl := h.listX hi hx
  have hr : ∀ {v : Value} {xs : List (List Value)}, JR E8 1 wk base v xs → JR E8 1 w' base v xs := fun hv => jr_after (by decide) hl hp hv
  have hsz : (wk.alloc o).heap.size = wk.heap.size + 1 := by simp
  have h1 := h.in2.kept.1
  have h2 := hx.size
  have h3 := hp.grown.size
  have hal : Below wk.heap.size wk (wk.alloc o) := (Below.refl _ _).alloc (Nat.le_refl _) o
  refine ⟨h.in2.step hbase hi hx hr ?_ ?_ (by omega), by rw [← List.append_assoc]; exact hp.row, ?_⟩
  · exact ((hal.mono (by omega)).grown hp.grown (by omega) fun q hq => hl.blk_ge q hq)
  · intro b hb
    refine ⟨by omega, ?_⟩
    rw [hp.grown.block b (by omega) (fun e => by have := h.fresh b e.symm; omega)]
    exact hal.block b (by omega)
  · intro b hb
    rcases hp.way with ⟨g, cap, e1, e2⟩ | ⟨⟨g, e1, e2⟩, _⟩
    · refine h.fresh b ?_
      rw [e1]
      rw [e2] at hb
      exact hb
    · rw [e1] at hb
      injection hb with hb
      omega
theorem M1.two {w : World} {base B : Nat} {vs : List Value} {f : Nat → List (List Value)} {wr : World} (h : M1 w base B vs f wr vs.length 0) (hB : w.heap.size ≤ B) : M2 w base vs f wr 0 [] (.slice (some ⟨B, 0, none⟩) 4 4) :=
  ⟨h.in1.two, by rw [List.append_nil]; exact h.list, fun b hb => by have : B = b := (by simpa [Value.ownBlock] using hb); omega⟩
theorem M2.cells {w : World} {base : Nat} {vs : List Value} {f : Nat → List (List Value)} {wr : World} {i n lc : Nat} {la : Option Addr} {gs : List Value} (h : M2 w base vs f wr i gs (.slice la n lc)) (hi : i < vs.length) : ∃ lg a3 c3, la = some ⟨lg, 0, none⟩ ∧ vs.getD i Ow.nil = .slice a3 (f i).length c3 ∧ (f i).length ≤ c3 ∧ wr.cell? ⟨lg, i, none⟩ = some (.slice a3 (f i).length c3) ∧ lc ≤ maxLen := by
  have hrow := h.in2.rows.row i hi
  obtain ⟨a3, c3, hv3, hle3⟩ := hrow.shape
  rw [fug_len] at hv3 hle3
  obtain ⟨_, _, ⟨e1, e2⟩ | ⟨lg, cap, cur, e1, _⟩⟩ := h.list
  · rw [List.length_append] at e2; omega
  · injection e1 with e1 _ _
    subst e1
    obtain ⟨_, _, hm, _, _, hc⟩ := h.list.at
    have hcl := (hc i (vs.getD i Ow.nil) (by rw [List.getElem?_append_left hi]; exact getD_at hi)).1
    rw [hv3] at hcl
    exact ⟨lg, a3, c3, rfl, hv3, hle3, hcl, hm⟩
theorem jk_same {w w' : World} {base : Nat} {v : Value} {l : List Nat} (h : JB w base v l) (hb : ∀ g, v.ownBlock = some g → w'.heap[g]? = w.heap[g]?) : JB w' base v l := by
  obtain ⟨h1, h0, ⟨rfl, e⟩ | ⟨g', cap', cur, rfl, hbs, hh, hr⟩⟩ := h
  · exact ⟨h1, h0, .inl ⟨rfl, e⟩⟩
  · exact ⟨h1, h0, .inr ⟨g', cap', cur, rfl, hbs, (hb g' rfl).trans hh, hr⟩⟩
theorem HB.kept {w WA wr : World} {N1 : Nat} {a : Option Addr} {c g gc : Nat} {l F : List Nat} {vs : List Value} (h : HB w N1 a c g gc l F WA) (hI : IsB w (.slice a l.length c) l) (hk : Kept WA wr vs) (hb : Below w.heap.size WA wr) (hg : g < WA.heap.size) (hn : ∀ t, t < vs.length → (vs.getD t nil).ownBlock ≠ some g) : HB w N1 a c g gc l F wr := by
  refine ⟨hI.below (h.below.trans hb), jk_same h.own fun b hb => ?_, h.below.trans hb⟩
  have : g = b := (by simpa [Value.ownBlock] using hb)
  subst this
  exact hk.2 g hg hn
/-- the lists, written full, and the longer ones -/
structure M3 (base : Nat) (vs gs : List Value) (f : Nat → List (List Value)) (wr : World) (LV : Value) : Prop where
  rows : ∀ t, t < vs.length → JR E8 1 wr base (vs.getD t nil) (fug mkb f t)
  grow : ∀ t, t < vs.length → JR E8 1 wr base (gs.getD t nil) (fug mkb f t ++ List.replicate 64 (mkb t))
  list : JV ES wr base LV (vs ++ gs)
theorem M2.three {w : World} {base : Nat} {vs : List Value} {f : Nat → List (List Value)} {wr : World} {gs : List Value} {LV : Value} (h : M2 w base vs f wr vs.length gs LV) : M3 base vs gs f wr LV := ⟨h.in2.rows.row, h.in2.grow, h.list⟩
theorem M3.keep {base : Nat} {vs gs : List Value} {f : Nat → List (List Value)} {wr w' : World} {LV : Value} (h : M3 base vs gs f wr LV) (hb : Below wr.heap.size wr w') : M3 base vs gs f w' LV :=
  ⟨fun t ht => (h.rows t ht).keepAll hb, fun t ht => (h.grow t ht).keepAll hb, h.list.below hb⟩
theorem M3.put {base k : Nat} {vs gs : List Value} {f : Nat → List (List Value)} {wr : World} {LV : Value} {g : Nat} {u : Value} (h : M3 base vs gs f wr LV) (hg : g < base) : M3 base vs gs f (wr.setCell ⟨g, k, none⟩ u) LV := by
  have hr : ∀ {v : Value} {xs : List (List Value)}, JR E8 1 wr base v xs → JR E8 1 (wr.setCell ⟨g, k, none⟩ u) base v xs := fun {v xs} hv => jr_same hv fun b hb => set_heap wr g k b u fun e => by have := hv.blk_ge b hb; omega
  exact ⟨fun t ht => hr (h.rows t ht), fun t ht => hr (h.grow t ht), h.list.same fun b hb => set_heap wr g k b u fun e => by have := h.list.blk_ge b hb; omega⟩
theorem HB.put {w : World} {N1 : Nat} {a : Option Addr} {c g gc : Nat} {l F : List Nat} {wk : World} (h : HB w N1 a c g gc l F wk) (hI : IsB w (.slice a l.length c) l) (hg : w.heap.size ≤ g) {k y : Nat} (hk : k < F.length) (hy : y < 256) : HB w N1 a c g gc l (F.set k y) (wk.setCell ⟨g, k, none⟩ (.int .u8 (y : Int))) := by
  have hb : Below w.heap.size w (wk.setCell ⟨g, k, none⟩ (.int .u8 (y : Int))) := h.below.setCell (p := ⟨g, k, none⟩) hg _
  refine ⟨hI.below hb, ?_, hb⟩
  have := JB.set (j := k) h.own (by rw [List.length_append]; rfl) hy
  rw [List.set_append_left _ _ hk] at this
  rw [List.length_set]
  exact this
theorem jk_frozen {w : World} {base g n c : Nat} {l : List Nat} (h : JB w base (.slice (some ⟨g, 0, none⟩) n c) l) (k : Nat) : w.frozen? ⟨g, k, none⟩ = false := by
  obtain ⟨h1, h0, ⟨e, _⟩ | ⟨g', cap', cur, e, hbs, hh, hr⟩⟩ := h
  · cases e
  · injection e with e
    injection e with e
    injection e with e
    subst e
    simp [World.frozen?, hh]
theorem gc_lim {w : World} {base g n c : Nat} {l : List Nat} (h : JB w base (.slice (some ⟨g, 0, none⟩) n c) (l ++ [167, 90])) : l.length + 2 ≤ c ∧ c ≤ 9223372036854775807 := by
  obtain ⟨h1, h0, ⟨e, _⟩ | ⟨g', cap', cur, e, hbs, hh, hl, hm, hr⟩⟩ := h
  · cases e
  · injection e with _ e2 e3
    rw [List.length_append] at hl
    simp at hl
    unfold maxLen at hm
    omega
theorem M3.cells {base : Nat} {vs gs : List Value} {f : Nat → List (List Value)} {wr : World} {la : Option Addr} {lc : Nat} (h : M3 base vs gs f wr (.slice la 8 lc)) (hv : vs.length = 4) (hg : gs.length = 4) (hf : ∀ t, (f t).length ≤ 20000000000) : ∃ lg, la = some ⟨lg, 0, none⟩ ∧ 8 ≤ lc ∧ lc ≤ maxLen ∧ ∀ i, i < 8 → ∃ a n c, wr.cell? ⟨lg, i, none⟩ = some (.slice a n c) ∧ n ≤ c ∧ n ≤ 20000000064 ∧ ∀ k, k < n → ∃ g3, a = some ⟨g3, 0, none⟩ ∧ wr.cell? ⟨g3, k, none⟩ = some (.int .u8 ((i % 4 + 1 : Nat) : Int)) := by
  have hl8 : (vs ++ gs).length = 8 := by rw [List.length_append, hv, hg]
  -- a list that came out full
  have row : ∀ (v : Value) (t : Nat) (xs : List (List Value)), JR E8 1 wr base v xs → xs.length ≤ 20000000064 → (∀ k, k < xs.length → xs[k]? = some (mkb t)) → ∃ a n c, v = .slice a n c ∧ n ≤ c ∧ n ≤ 20000000064 ∧ ∀ k, k < n → ∃ g3, a = some ⟨g3, 0, none⟩ ∧ wr.cell? ⟨g3, k, none⟩ = some (.int .u8 ((t + 1 : Nat) : Int)) := by
    intro v t xs hj hx hk
    obtain ⟨a, c, e, hc⟩ := hj.shape
    refine ⟨a, xs.length, c, e, hc, hx, fun k hlt => ?_⟩
    obtain ⟨g3, c3, e3, _⟩ := hj.nn (by intro q; rw [q] at hlt; simp at hlt)
    rw [e] at e3
    injection e3 with e3 _ _
    subst e3
    rw [e] at hj
    have h0 := hj.at k _ 0 _ (hk k hlt) rfl
    rw [Nat.mul_one, Nat.add_zero] at h0
    exact ⟨g3, rfl, h0⟩
  obtain ⟨_, _, ⟨e1, e2⟩ | ⟨lg, cap, cur, e1, _⟩⟩ := h.list
  · omega
  · injection e1 with e1 _ _
    subst e1
    obtain ⟨_, hc, hm, _, _, hcl⟩ := h.list.at
    refine ⟨lg, rfl, hc, hm, fun i hi => ?_⟩
    by_cases h4 : i < 4
    · obtain ⟨a, n, c, e, h1, h2, h3⟩ := row _ i _ (h.rows i (by omega)) (by rw [fug_len]; have := hf i; omega) (fun k hk => by rw [fug_len] at hk; exact fug_at mkb f i k hk)
      have := (hcl i (vs.getD i Ow.nil) (by rw [List.getElem?_append_left (by omega)]; exact getD_at (by omega))).1
      rw [e] at this
      refine ⟨a, n, c, this, h1, h2, ?_⟩
      rw [Nat.mod_eq_of_lt h4]; exact h3
    · obtain ⟨a, n, c, e, h1, h2, h3⟩ := row _ (i - 4) _ (h.grow (i - 4) (by omega)) (by rw [long_len]; have := hf (i - 4); omega) (fun k hk => by rw [long_len] at hk; exact long_at mkb f (i - 4) k hk)
      have := (hcl i (gs.getD (i - 4) Ow.nil) (by rw [List.getElem?_append_right (by omega), hv]; exact getD_at (by omega))).1
      rw [e] at this
      refine ⟨a, n, c, this, h1, h2, ?_⟩
      rw [show i % 4 = i - 4 by omega]; exact h3
set_option pp.maxSteps 1000000 in
set_option maxRecDepth 100000 in
set_option maxHeartbeats 40000000 in
theorem makes_walk (v : Value) (l : List Nat) (w : World) (hI : IsB w v l) (hm : l.length ≤ 1048576) :
    Calls Try.prog 4 #[v] w fun e w' => e = .returned (.bool true) ∧ Below w.heap.size w w' := by
  obtain ⟨a, c, rfl⟩ := hI.shape
  have HI := hd hI
  have hby := hI.1
  have hoL := oL_len hby
  clear hI
  have hmx : Try.prog.follows .mixedOrders = true := by kernel_rfl
  go_enter Try.func4, Try.ntmps4
  go_wp2_with fail
  refine Calls.mono (hknown_is _) ?_
  rintro e w1 ⟨rfl, b1⟩
  have HB1 := hd b1
  have HI1 := hd (HI.out.below b1)
  have hs1 := b1.size
  clear b1
  go_wp2_with fail
  refine Calls.mono (hlent_is _ l w1 HI1.out (by omega)) ?_
  rintro e w2 ⟨g, gc, rfl, j2, b2⟩
  have hgg : g < w2.heap.size := j2.blk_lt g rfl
  have hgw : w1.heap.size ≤ g := JK.blk_ge (k := .u8) (M := 256) (E := 5) j2 g rfl
  have HS2 : Hid (HB w w1.heap.size a c g gc l l w2) := ⟨HI1.out.below b2, j2, HB1.out.trans (b2.mono hs1)⟩
  have hs2 := b2.size
  clear j2 b2 HI1 HB1
  obtain ⟨L, hL⟩ : ∃ L, L = oL l := ⟨_, rfl⟩
  obtain ⟨E, hE⟩ : ∃ E, E = oE l := ⟨_, rfl⟩
  obtain ⟨L0, hL0⟩ : ∃ L0, L0 = oL [] := ⟨_, rfl⟩
  have hoL0 : L0.length ≤ 20000000000 := by rw [hL0]; exact oL_len byt_nil
  rw [← hL] at hoL
  have HL := hd hL
  have HE := hd hE
  have HL0 := hd hL0
  clear hL hE hL0
  go_wp2_with fail
  refine Calls.mono (hofQ _ l w2 (HS2.out.lent rfl)) ?_
  rintro e w3 ⟨⟨ax, cx, rfl, jx⟩, bx⟩
  rw [← HL.out, ← HE.out]
  rw [← HL.out] at jx
  have HS3 := hd (HS2.out.keep bx)
  have Lx : Hid (∀ b, (Value.slice ax L.length cx).ownBlock = some b → b < w3.heap.size) := fun b hb => jx.blk_lt b hb
  have Jx := hd jx
  have hzx := bx.size
  clear jx bx HS2
  go_wp2_with fail
  refine Calls.mono (hofQ _ l w3 (HS3.out.lent rfl)) ?_
  rintro e w4 ⟨⟨am, cm, rfl, jm⟩, bm⟩
  rw [← HL.out, ← HE.out]
  rw [← HL.out] at jm
  have HS4 := hd (HS3.out.keep bm)
  have Jx := hd (Jx.out.keepAll bm)
  have Lm : Hid (∀ b, (Value.slice am L.length cm).ownBlock = some b → b < w4.heap.size) := fun b hb => jm.blk_lt b hb
  have Jm := hd jm
  have hzm := bm.size
  clear jm bm HS3
  go_wp2_with fail
  refine Calls.mono (hofQ _ [] w4 (isK_nil _ _ _ _ _)) ?_
  rintro e w5 ⟨⟨az, cz, rfl, jz⟩, bz⟩
  rw [← HL0.out]
  rw [← HL0.out] at jz
  have HS5 := hd (HS4.out.keep bz)
  have Jx := hd (Jx.out.keepAll bz)
  have Jm := hd (Jm.out.keepAll bz)
  have Lz : Hid (∀ b, (Value.slice az L0.length cz).ownBlock = some b → b < w5.heap.size) := fun b hb => jz.blk_lt b hb
  have Jz := hd jz
  have hzz := bz.size
  clear jz bz HS4
  obtain ⟨E0, hE0⟩ : ∃ E0, E0 = oE [] := ⟨_, rfl⟩
  rw [← hE0]
  clear hE0
  go_wp2_with fail
  refine Calls.mono (hofQ _ l w5 (HS5.out.lent rfl)) ?_
  rintro e w6 ⟨⟨au, cu, rfl, ju⟩, bu⟩
  rw [← HL.out, ← HE.out]
  rw [← HL.out] at ju
  have HS6 := hd (HS5.out.keep bu)
  have Jx := hd (Jx.out.keepAll bu)
  have Jm := hd (Jm.out.keepAll bu)
  have Jz := hd (Jz.out.keepAll bu)
  have Lu : Hid (∀ b, (Value.slice au L.length cu).ownBlock = some b → b < w6.heap.size) := fun b hb => ju.blk_lt b hb
  have Ju := hd ju
  have hzu := bu.size
  clear ju bu HS5
  go_wp2_with fail
  refine Calls.mono (rofQ _ l w6 HS6.out.data (by omega)) ?_
  rintro e w7 ⟨⟨ay, cy, rfl, jy⟩, byy⟩
  rw [← HL.out, ← HE.out]
  rw [← HL.out] at jy
  have HS7 := hd (HS6.out.keep byy)
  have Jx := hd (Jx.out.keepAll byy)
  have Jm := hd (Jm.out.keepAll byy)
  have Jz := hd (Jz.out.keepAll byy)
  have Ju := hd (Ju.out.keepAll byy)
  have Jyy := hd jy
  have hzy := byy.size
  clear jy byy HS6
  go_wp2_with fail
  refine Calls.mono (rofQ _ [] w7 (isK_nil _ _ _ _ _) (by simp)) ?_
  rintro e w8 ⟨⟨ap, cp, rfl, jp⟩, bp⟩
  rw [← HL0.out]
  rw [← HL0.out] at jp
  have HS8 := hd (HS7.out.keep bp)
  have Jx := hd (Jx.out.keepAll bp)
  have Jm := hd (Jm.out.keepAll bp)
  have Jz := hd (Jz.out.keepAll bp)
  have Ju := hd (Ju.out.keepAll bp)
  have Jyy := hd (Jyy.out.keepAll bp)
  have Jp := hd jp
  have hzp := bp.size
  clear jp bp HS7
  obtain ⟨E1, hE1⟩ : ∃ E1, E1 = oE [] := ⟨_, rfl⟩
  rw [← hE1]
  clear hE1
  go_wp2_with fail
  refine Calls.mono (hkept_is g gc w1.heap.size l _ w8 HS8.out.own HS8.out.data (by omega)) ?_
  rintro e w9 ⟨rfl, b9⟩
  have HS9 := hd (HS8.out.keep b9)
  have Jx := hd (Jx.out.keepAll b9)
  have Jm := hd (Jm.out.keepAll b9)
  have Jz := hd (Jz.out.keepAll b9)
  have Ju := hd (Ju.out.keepAll b9)
  have Jyy := hd (Jyy.out.keepAll b9)
  have Jp := hd (Jp.out.keepAll b9)
  have hz9 := b9.size
  clear b9 HS8
  go_wp2_with fail
  refine Calls.mono (hsame_is _ _ L L w9 Jx.out.isB Jyy.out.isB) ?_
  rintro e w10 ⟨rfl, nw10, rfl⟩
  rw [decide_eq_true (show L = L from rfl)]
  go_wp2_with fail
  refine Calls.mono (hsame_is _ _ L L _ Ju.out.isB Jyy.out.isB) ?_
  rintro e w11 ⟨rfl, nw11, rfl⟩
  rw [decide_eq_true (show L = L from rfl)]
  go_wp2_with fail
  refine Calls.mono (hsame_is _ _ L L _ Jm.out.isB Jyy.out.isB) ?_
  rintro e w12 ⟨rfl, nw12, rfl⟩
  rw [decide_eq_true (show L = L from rfl)]
  go_wp2_with fail
  refine Calls.mono (hsame_is _ _ L0 L0 _ Jz.out.isB Jp.out.isB) ?_
  rintro e w13 ⟨rfl, nw13, rfl⟩
  rw [decide_eq_true (show L0 = L0 from rfl)]
  go_wp2_with fail
  obtain ⟨nn, hnn⟩ : ∃ nn, nn = nw10 + nw11 + nw12 + nw13 := ⟨_, rfl⟩
  rw [← hnn]
  obtain ⟨WA, hWA⟩ : ∃ WA, WA = w9.drewN nn := ⟨_, rfl⟩
  have hwa : WA.heap.size = w9.heap.size := by rw [hWA]; rfl
  rw [← hWA]
  have HKA : Hid (Below w9.heap.size w9 WA) := by rw [hWA]; exact below_drewN (Below.refl _ _) _
  obtain ⟨WB, hWB⟩ : ∃ WB, WB = WA.alloc (.cells #[.slice ax L.length cx, .slice az L0.length cz, .slice au L.length cu, .slice am L.length cm] ES) := ⟨_, rfl⟩
  have hx1 : w2.heap.size ≤ w9.heap.size := by omega
  have hP1 : M1 WA w2.heap.size w9.heap.size [.slice ax L.length cx, .slice az L0.length cz, .slice au L.length cu, .slice am L.length cm] (fun t => if t = 1 then br L0 else br L) WB 0 0 := by
    have hx := jr_of Jx.out
    have hz := jr_of Jz.out
    have hu := jr_of Ju.out
    have hm := jr_of Jm.out
    have hk : Below w9.heap.size w9 WB := by rw [hWB]; exact HKA.out.alloc (by omega) _
    refine ⟨In1R.start (four_rows ((hx.keepAll hk).lower (by omega)) ((hz.keepAll hk).lower (by omega)) ((hu.keepAll hk).lower (by omega)) ((hm.keepAll hk).lower (by omega)) ?_ ?_ ?_ ?_ ?_ ?_) (by rw [hWB]; exact (Below.refl _ _).alloc (by omega) _) (by rw [hWB]; exact ⟨by simp, fun b hb _ => ((Below.refl WA.heap.size WA).alloc (Nat.le_refl _) _).block b hb⟩), ?_⟩
    · exact jr_apart2 Lx.out hz (by omega)
    · exact jr_apart2 Lx.out hu (by omega)
    · exact jr_apart2 Lx.out hm (by omega)
    · exact jr_apart2 Lz.out hu (by omega)
    · exact jr_apart3 Lm.out hz (by omega)
    · exact jr_apart3 Lm.out hu (by omega)
    · rw [hWB]
      exact lists_new _ _ _ _ _ _ _ hwa (by omega) (by intro u hu; simp only [List.mem_cons, List.mem_nil_iff, or_false] at hu; rcases hu with rfl | rfl | rfl | rfl <;> rfl)
  have HSA := hd (HS9.out.keep HKA.out)
  have HYA := hd (Jyy.out.keepAll HKA.out)
  rw [← hWB]
  have HPB := hd hP1
  clear hP1 hWB hnn hWA
  have HV : Hid (∃ vs, vs = [Value.slice ax L.length cx, .slice az L0.length cz, .slice au L.length cu, .slice am L.length cm]) := ⟨_, rfl⟩
  obtain ⟨vs, hvs⟩ := HV.out
  obtain ⟨f, hf⟩ : ∃ f : Nat → List (List Value), f = fun t => if t = 1 then br L0 else br L := ⟨_, rfl⟩
  have hvl : vs.length = 4 := by rw [hvs]; rfl
  have hfl : ∀ t, (f t).length ≤ 20000000000 := by intro t; rw [hf]; simp only; split <;> rw [br_len] <;> omega
  have HNB : Hid (∀ b, b < w2.heap.size → ∀ t, t < vs.length → (vs.getD t nil).ownBlock ≠ some b) := by
    intro b hb t ht e
    have hx := jr_of Jx.out
    have hz := jr_of Jz.out
    have hu := jr_of Ju.out
    have hm := jr_of Jm.out
    rw [hvl] at ht
    have : t = 0 ∨ t = 1 ∨ t = 2 ∨ t = 3 := by omega
    rw [hvs] at e
    rcases this with rfl | rfl | rfl | rfl
    · have := hx.blk_ge b e
      omega
    · have := hz.blk_ge b e
      omega
    · have := hu.blk_ge b e
      omega
    · have := hm.blk_ge b e
      omega
  have HYB : Hid (∀ b, (Value.slice ay L.length cy).ownBlock = some b → ∀ t, t < vs.length → (vs.getD t nil).ownBlock ≠ some b) := by
    intro b hb t ht e
    have hge := (jr_of Jyy.out).blk_ge b hb
    rw [hvl] at ht
    have : t = 0 ∨ t = 1 ∨ t = 2 ∨ t = 3 := by omega
    rw [hvs] at e
    rcases this with rfl | rfl | rfl | rfl
    · have := Lx.out b e
      omega
    · have := Lz.out b e
      omega
    · have := Lu.out b e
      omega
    · have := Lm.out b e
      omega
  rw [← hvs, ← hf] at HPB
  have HVS := hd hvs
  have HF := hd hf
  have HVL := hd hvl
  clear hvs hf HV
  go_loopw [21] (fun x wr => ∃ i : Nat, i ≤ 4 ∧ x = .int .i64 (i : Int) ∧ M1 WA w2.heap.size w9.heap.size vs f wr i 0) (fun x _ => 4 - (intOf x).toNat)
  case atStart => exact ⟨0, by omega, rfl, HPB.out⟩
  case round =>
    obtain ⟨i, hi, rfl, hI⟩ := hrel
    have HI2 := hd hI
    clear hI HPB
    by_cases hlt : i < 4
    · have hii : ((i : Nat) : Int) < 4 := by omega
      have HLT : Hid (i + 1 ≤ 4) := hlt
      have hfi := hfl i
      clear hi
      go_wp2_with fail
      go_loopw [22] (fun x wr => ∃ k : Nat, k ≤ (f i).length ∧ x = .int .i64 (k : Int) ∧ M1 WA w2.heap.size w9.heap.size vs f wr i k) (fun x _ => (f i).length - (intOf x).toNat)
      case atStart => exact ⟨0, by omega, rfl, HI2.out⟩
      case round =>
        obtain ⟨k, hk, rfl, hI⟩ := hrel
        have HI3 := hd hI
        obtain ⟨a3, c3, hv3, hle3, hcl, hg3⟩ := hI.cells (by omega) hk
        have hcap := (hI.list.at).2.2.1
        clear hI HI2
        by_cases hkl : k < (f i).length
        · have hki : ((k : Nat) : Int) < ((f i).length : Int) := by omega
          have HKL : Hid (k + 1 ≤ (f i).length) := hkl
          obtain ⟨g3, rfl⟩ := hg3 hkl
          obtain ⟨⟨x0, s0⟩, z0⟩ := HI3.out.there (by rw [HVL.out]; exact HLT.out) HKL.out hv3
          have HPU := hd (HI3.out.put (by rw [HVL.out]; exact HLT.out) HKL.out hv3)
          clear hg3 hv3
          go_wp2_with fail
          exact ⟨⟨k + 1, HKL.out, by go_num, by have := HPU.out; rw [show (((i + 1 : Nat) : Nat) : Int) = (i : Int) + 1 by omega] at this; exact this⟩, by have := HKL.out; simp [intOf]; omega⟩
        · have hki : ¬ ((k : Nat) : Int) < ((f i).length : Int) := by omega
          have HNX : Hid (M1 WA w2.heap.size w9.heap.size vs f wr (i + 1) 0) := HI3.out.next (by omega)
          clear hkl hk hg3 hv3
          go_wp2_with fail
          exact ⟨⟨i + 1, HLT.out, by go_num, HNX.out⟩, by have := HLT.out; simp [intOf]; omega⟩
    · have hii : ¬ ((i : Nat) : Int) < 4 := by omega
      have e4 : i = 4 := by omega
      have HP2 : Hid (M1 WA w2.heap.size w9.heap.size vs f wr vs.length 0) := by rw [HVL.out, ← e4]; exact HI2.out
      clear hi hlt e4 HI2
      have HP2 := hd (HP2.out.two (by omega))
      go_wp2_with fail
      go_loopw [20, 23] (fun V x wr => ∃ (i : Nat) (a : Option Addr) (cc : Nat) (gs : List Value), i ≤ 4 ∧ x = .int .i64 (i : Int) ∧ V = .slice a (4 + i) cc ∧ M2 WA w2.heap.size vs f wr i gs V) (fun _ x _ => 4 - (intOf x).toNat)
      case atStart => exact ⟨0, _, _, _, by omega, rfl, rfl, HP2.out⟩
      case round =>
        obtain ⟨i, la, lc, gs, hi, rfl, rfl, hI⟩ := hrel
        have HI2 := hd hI
        clear hI HP2
        obtain ⟨WI, hWI⟩ : ∃ WI, WI = wr := ⟨_, rfl⟩
        subst hWI
        by_cases hlt : i < 4
        · have hii : ((i : Nat) : Int) < 4 := by omega
          have HLT : Hid (i + 1 ≤ 4) := hlt
          have hfi := hfl i
          have hcl := HI2.out.cells (i := i) (by rw [HVL.out]; exact hlt)
          obtain ⟨lg, a3, c3, hla, hv3, hle3, hcl, hcc⟩ := hcl
          subst hla
          have HV3 := hd hv3
          have HROW := hd (HI2.out.in2.rows.row i (by rw [HVL.out]; exact hlt))
          have HWS : Hid (w2.heap.size ≤ WI.heap.size) := Nat.le_trans (by rw [hwa]; omega : w2.heap.size ≤ WA.heap.size) HI2.out.in2.kept.1
          clear hi hv3
          go_wp2_with fail
          go_loopw [24, 25] (fun gv x wk => ∃ (k : Nat) (a4 : Option Addr) (c4 : Nat), k ≤ 64 ∧ x = .int .i64 (k : Int) ∧ gv = .slice a4 ((f i).length + k) c4 ∧ ExtR E8 1 WI w2.heap.size (vs.getD i nil) (fug mkb f i) (mkb i) k gv wk) (fun _ x _ => 64 - (intOf x).toNat)
          case atStart => exact ⟨0, a3, c3, by omega, rfl, rfl, by have := ExtR.start HROW.out (mkb i); rw [HV3.out] at this ⊢; exact this⟩
          case round =>
            obtain ⟨k, a4, c4, hk, rfl, rfl, hX⟩ := hrel
            obtain ⟨wk, hwke⟩ : ∃ wk, wk = wr := ⟨_, rfl⟩
            subst hwke
            have HX := hd hX
            have hwk := hX.size
            have hrl : (fug mkb f i ++ List.replicate k (mkb i)).length = (f i).length + k := by rw [List.length_append, fug_len, List.length_replicate]
            have HRL := hd hrl
            have HJA := hd (fun o => hX.row.keepAll ((Below.refl wk.heap.size wk).alloc (Nat.le_refl _) o))
            have HLX := hd (HI2.out.listX (by rw [HVL.out]; exact hlt) hX)
            clear hX hrl
            by_cases hk64 : k < 64
            · have hki : ((k : Nat) : Int) < 64 := by omega
              go_wp2_with (at_builtin; refine wpList_append_keepR (E := E8) (sz := 1) (S := 36) Try.underlying36 info_u8 rfl (by decide) _ rfl _ _ rfl w2.heap.size _ (fug mkb f i ++ List.replicate k (mkb i)) ⟨wk.heap.size, 0, none⟩ 1 (mkb i) rfl rfl (HJA.out _) rfl (fun j u hu => by rw [add_at, Nat.zero_add]; exact cell_lit _ _ (mkb i) j u _ rfl hu) (mkb_one i) ((f i).length + k + 1) (by rw [HRL.out]) (by omega) (by unfold maxLen; omega) (by have := HWS.out; simp; omega) ?_; intro a5 c5 w5 hP; have HP := hd hP; clear hP)
              exact ⟨⟨k + 1, a5, c5, by omega, by go_num, rfl, HX.out.step HROW.out HP.out⟩, by simp [intOf]; omega⟩
            · have hki : ¬ ((k : Nat) : Int) < 64 := by omega
              have e64 : k = 64 := by omega
              subst e64
              have HBS : Hid (w2.heap.size ≤ wk.heap.size) := Nat.le_trans HWS.out hwk
              have HGL := hd HI2.out.in2.len
              clear hk hk64 HJA
              go_wp2_with (at_builtin; refine wpList_append_keep (E := ES) (S := 44) (z := .slice none 0 0) (by_ := 24) Try.underlying44 info_sl rfl _ rfl _ _ rfl w2.heap.size _ (vs ++ gs) ⟨wk.heap.size, 0, none⟩ 1 (.slice a4 ((f i).length + 64) c4) rfl rfl (HLX.out.below ((Below.refl wk.heap.size wk).alloc (Nat.le_refl _) _)) (World.cell?_alloc_new _ _ _ _) rfl (4 + i + 1) (by rw [List.length_append, HVL.out, HGL.out]) (by omega) (by unfold maxLen; omega) (by have := HBS.out; simp; omega) ?_; intro a6 c6 w6 hP; have HP := hd hP; clear hP)
              exact ⟨⟨i + 1, a6, c6, gs ++ [.slice a4 ((f i).length + 64) c4], HLT.out, by go_num, by rfl, HI2.out.step (by rw [hwa]; omega) (by rw [HVL.out]; exact HLT.out) HX.out HP.out⟩, by have := HLT.out; simp [intOf]; omega⟩
        · have hii : ¬ ((i : Nat) : Int) < 4 := by omega
          have e4 : i = 4 := by omega
          have hk2 := HI2.out.in2.kept
          have hb2 := HI2.out.in2.below
          have HSI := hd (HSA.out.kept HI.out hk2 (hb2.mono (by omega)) (by rw [hwa]; omega) (HNB.out g (by omega)))
          have HYI := hd (jk_same HYA.out fun b hb => hk2.2 b ((jr_of HYA.out).blk_lt b hb) (HYB.out b hb))
          have HSL : Hid (WA.heap.size ≤ WI.heap.size) := hk2.1
          subst e4
          have HP3 : Hid (M2 WA w2.heap.size vs f WI vs.length gs (.slice la 8 lc)) := by rw [HVL.out]; exact HI2.out
          have HGN := hd HI2.out.in2.len
          clear hi hlt hk2 hb2 HI2
          go_wp2_with fail
          refine Calls.mono (hofQ _ l WI (HSI.out.lent rfl)) ?_
          rintro e v1 ⟨⟨ar, cr, rfl, jr⟩, br⟩
          rw [← HL.out, ← HE.out]
          rw [← HL.out] at jr
          have HSJ := hd (HSI.out.keep br)
          have HYJ := hd (HYI.out.keepAll br)
          have HP4 := hd (HP3.out.three.keep br)
          have Jr := hd jr
          clear jr br HSI HYI HP3
          go_wp2_with fail
          refine Calls.mono (hsame_is _ _ L L v1 Jr.out.isB HYJ.out.isB) ?_
          rintro e v2 ⟨rfl, nr, rfl⟩
          rw [decide_eq_true (show L = L from rfl)]
          have HSK : Hid (HB w w1.heap.size a c g gc l l (v1.drewN nr)) := HSJ.out.keep (below_drewN (Below.refl _ _) _)
          have HP5 : Hid (M3 w2.heap.size vs gs f (v1.drewN nr) (.slice la 8 lc)) := HP4.out.keep (below_drewN (Below.refl _ _) _)
          obtain ⟨v3, hv3⟩ : ∃ v3, v3 = v1.drewN nr := ⟨_, rfl⟩
          rw [← hv3] at HSK HP5 ⊢
          clear hv3 HSJ HYJ HP4 Jr
          go_wp2_with fail
          go_loopw [29] (fun x wr => ∃ (k : Nat) (F : List Nat), k ≤ l.length ∧ x = .int .i64 (k : Int) ∧ F.length = l.length ∧ HB w w1.heap.size a c g gc l F wr ∧ M3 w2.heap.size vs gs f wr (.slice la 8 lc)) (fun x _ => l.length - (intOf x).toNat)
          case atStart => exact ⟨0, l, by omega, rfl, rfl, HSK.out, HP5.out⟩
          case round =>
            obtain ⟨k, F, hk, rfl, hFl, hS, hP⟩ := hrel
            have HSF := hd hS
            have HPF := hd hP
            have HFL := hd hFl
            clear hS hP hFl HSK HP5
            by_cases hlt : k < l.length
            · have hki : ((k : Nat) : Int) < (l.length : Int) := by omega
              have HLT : Hid (k + 1 ≤ l.length) := hlt
              have hFb := (HSF.out.lent HFL.out).1
              have hcell := (show IsK .u8 256 wr (.slice (some ⟨g, 0, none⟩) l.length gc) F from HSF.out.lent HFL.out).row k (by rw [HFL.out]; exact hlt)
              rw [Nat.zero_add] at hcell
              have hfro := jk_frozen HSF.out.own k
              have hp : F.getD k 0 < 256 := by
                rw [List.getD_eq_getElem?_getD, List.getElem?_eq_getElem (by rw [HFL.out]; exact hlt)]
                exact hFb _ (List.getElem_mem _)
              have hgcl := gc_lim HSF.out.own
              rw [HFL.out] at hgcl
              have HN := hd (HSF.out.put HI.out (k := k) (y := F.getD k 0 ^^^ 1) (by omega) (by rw [HFL.out]; exact hlt) (Nat.xor_lt_two_pow (n := 8) hp (by decide)))
              have HNP := hd (HPF.out.put (g := g) (k := k) (u := .int .u8 ((F.getD k 0 ^^^ 1 : Nat) : Int)) (by omega))
              have HX := hd (u8_xor_nat (F.getD k 0) 1 hp (by decide))
              have HNL : Hid ((F.set k (F.getD k 0 ^^^ 1)).length = l.length) := by have := HFL.out; show _ = _; rw [List.length_set]; exact this
              generalize F.getD k 0 = p at *
              clear hFb hk
              go_wp2_with fail
              have hx := HX.out
              rw [show ((1 : Nat) : Int) = 1 from rfl] at hx
              rw [hx]
              go_roundw
              case rel => exact ⟨k + 1, _, HLT.out, by go_num, HNL.out, HN.out, HNP.out⟩
              case measure => have := HLT.out; simp [intOf]; omega
            · have hki : ¬ ((k : Nat) : Int) < (l.length : Int) := by omega
              have HLF : Hid (F.length ≤ 16777216) := by have := HFL.out; show _ ≤ _; omega
              clear hk hlt
              go_wp2_with fail
              refine Calls.mono (hofQ _ F wr (HSF.out.lent HFL.out)) ?_
              rintro e v4 ⟨⟨ar4, cr4, rfl, jr4⟩, br4⟩
              have HSG := hd (HSF.out.keep br4)
              have HPG := hd (HPF.out.keep br4)
              have Jr := hd jr4
              clear jr4 br4
              obtain ⟨LF, hLF⟩ : ∃ LF, LF = oL F := ⟨_, rfl⟩
              have HLFE := hd hLF
              clear hLF
              obtain ⟨EF, hEF⟩ : ∃ EF, EF = oE F := ⟨_, rfl⟩
              have HEF := hd hEF
              clear hEF
              rw [← HLFE.out] at Jr
              rw [← HLFE.out, ← HEF.out]
              go_wp2_with fail
              refine Calls.mono (rofQ _ F v4 (HSG.out.lent HFL.out) HLF.out) ?_
              rintro e v5 ⟨⟨ar5, cr5, rfl, jr5⟩, br5⟩
              rw [← HLFE.out] at jr5
              rw [← HLFE.out, ← HEF.out]
              have HSH := hd (HSG.out.keep br5)
              have HPH := hd (HPG.out.keep br5)
              have Jr := hd (Jr.out.keepAll br5)
              have Js := hd jr5
              clear jr5 br5
              go_wp2_with fail
              refine Calls.mono (hsame_is _ _ LF LF v5 Jr.out.isB Js.out.isB) ?_
              rintro e v6 ⟨rfl, nr6, rfl⟩
              rw [decide_eq_true (show LF = LF from rfl)]
              have HBE : Hid (Below w.heap.size w (v5.drewN nr6)) := (HSH.out.keep (below_drewN (Below.refl _ _) _)).below
              have HPI : Hid (M3 w2.heap.size vs gs f (v5.drewN nr6) (.slice la 8 lc)) := HPH.out.keep (below_drewN (Below.refl _ _) _)
              obtain ⟨v7, hv7⟩ : ∃ v7, v7 = v5.drewN nr6 := ⟨_, rfl⟩
              rw [← hv7] at HBE HPI ⊢
              clear hv7 HSH HPH HSG HPG Jr Js HSF HPF
              go_wp2_with fail
              obtain ⟨lg, hla, hl8, hlm, hall⟩ := HPI.out.cells HVL.out HGN.out hfl
              subst hla
              have HALL := hd hall
              unfold maxLen at hlm
              clear hall HPI
              go_loopw [28, 35] (fun ok x wr => ∃ i n : Nat, i ≤ 8 ∧ x = .int .i64 (i : Int) ∧ ok = .bool true ∧ wr = v7.drewN n) (fun _ x _ => 8 - (intOf x).toNat)
              case atStart => exact ⟨0, 0, by omega, rfl, rfl, rfl⟩
              case round =>
                obtain ⟨i, n, hi, rfl, rfl, rfl⟩ := hrel
                by_cases hlt : i < 8
                · have hii : ((i : Nat) : Int) < 8 := by omega
                  have HLT : Hid (i + 1 ≤ 8) := hlt
                  obtain ⟨ra, rn, rc, hc0, hrc, hrn, hrow⟩ := HALL.out i hlt
                  have HROW := hd hrow
                  have HM4 : Hid (((i : Nat) : Int) % 4 = ((i % 4 : Nat) : Int)) := by show _ = _; omega
                  have ht4 : i % 4 < 4 := by omega
                  obtain ⟨t, ht⟩ : ∃ t, t = i % 4 := ⟨_, rfl⟩
                  rw [← ht] at HM4 ht4 HROW
                  clear hrow hi ht
                  go_wp2_with fail
                  go_loopw [28, 36] (fun ok x wr => ∃ k n : Nat, k ≤ rn ∧ x = .int .i64 (k : Int) ∧ ok = .bool true ∧ wr = v7.drewN n) (fun _ x _ => rn - (intOf x).toNat)
                  case atStart => exact ⟨0, n, by omega, rfl, rfl, rfl⟩
                  case round =>
                    obtain ⟨k, n2, hk, rfl, rfl, rfl⟩ := hrel
                    by_cases hkl : k < rn
                    · have hki : ((k : Nat) : Int) < (rn : Int) := by omega
                      have HKL : Hid (k + 1 ≤ rn) := hkl
                      obtain ⟨g3, hra, d0⟩ := HROW.out k hkl
                      subst hra
                      clear hk
                      have hmod := HM4.out
                      have hmodt : ((i : Nat) : Int).tmod 4 = (t : Int) := by rw [← hmod]; exact Int.tmod_eq_emod_of_nonneg (by omega)
                      have ht4i : (t : Int) < 4 := by omega
                      go_wp2_with fail
                      exact ⟨⟨k + 1, _, HKL.out, by go_num, rfl, rfl⟩, by have := HKL.out; simp [intOf]; omega⟩
                    · have hki : ¬ ((k : Nat) : Int) < (rn : Int) := by omega
                      clear hk hkl
                      go_wp2_with fail
                      exact ⟨⟨i + 1, _, HLT.out, by go_num, rfl, rfl⟩, by have := HLT.out; simp [intOf]; omega⟩
                · have hii : ¬ ((i : Nat) : Int) < 8 := by omega
                  clear hi hlt
                  go_wp2_with fail
                  go_ret
                  exact ⟨rfl, below_drewN HBE.out _⟩
end Os
end Go.Proofs.Ytnjhbidialngmaa
