/-
  HintLoads' walk: Load says what the document's Load says, of any bytes and for any fingerprint; lists that came out are each their owner's.
-/
import Derived.Test.YtifjjoobbegpoaaMhbp
import Derived.Test.YtifjjoobbegpoaaMhbx
import Derived.Test.YtifjjoobbegpoaaMhby
import Derived.Test.YtifjjoobbegpoaaMhbz
namespace Go.Proofs.Ytifjjoobbegpoaa
open Go.ChangeShapes Go.WideShapes Go.ChangeAt Go.RowKit Go.Shelf
namespace Os
open Vt Ow
/-- the pointers that Load tells -/
def lps (o : Option St) (bp fp : Int) (sp : Nat) : List Ptr := match o with
  | some s => if s.e.bytes = bp ∧ s.e.frames = fp ∧ s.e.sum = sp then s.ps else []
  | none => []
/-- the verdict -/
def lvd (o : Option St) (bp fp : Int) (sp : Nat) : Int := match o with
  | some s => if s.e.bytes = bp ∧ s.e.frames = fp ∧ s.e.sum = sp then 1 else 3
  | none => 4
theorem ldP_uni {o : Option St} {bp fp : Int} {sp n : Nat} {e : Ending} {w' : World} (h : ldP o bp fp sp n e w') : ∃ u, e = .returned (.tuple #[u, .int .i64 (lvd o bp fp sp)]) ∧ JPt w' n u ((lps o bp fp sp).map pvl) := by
  cases o with
  | none => exact ⟨_, h, jr_nil _ _⟩
  | some s =>
    rcases h with ⟨h1, h2⟩ | ⟨h1, u, h2, h3⟩
    · refine ⟨.slice none 0 0, ?_, ?_⟩
      · unfold lvd
        simp only
        rw [if_neg h1]; exact h2
      · unfold lps
        simp only
        rw [if_neg h1]; exact jr_nil _ _
    · refine ⟨u, ?_, ?_⟩
      · unfold lvd
        simp only
        rw [if_pos h1]; exact h2
      · unfold lps
        simp only
        rw [if_pos h1]; exact h3
/-- what a call of Load leaves -/
def LdQ (l : List Nat) (bp fp : Int) (sp : Nat) (w : World) (e : Ending) (w' : World) : Prop := (∃ a c, e = .returned (.tuple #[.slice a (lps (ldS l) bp fp sp).length c, .int .i64 (lvd (ldS l) bp fp sp)]) ∧ JPt w' w.heap.size (.slice a (lps (ldS l) bp fp sp).length c) ((lps (ldS l) bp fp sp).map pvl)) ∧ Below w.heap.size w w'
theorem ldQ_of {l : List Nat} {bp fp : Int} {sp : Nat} {w : World} {e : Ending} {w' : World} (h : ldP (ldS l) bp fp sp w.heap.size e w' ∧ Below w.heap.size w w') : LdQ l bp fp sp w e w' := by
  obtain ⟨u, he, hj⟩ := ldP_uni h.1
  obtain ⟨a, c, rfl, _⟩ := hj.shape
  rw [List.length_map] at he hj
  exact ⟨⟨a, c, he, hj⟩, h.2⟩
theorem loadQ (v : Value) (l : List Nat) (bp fp : Int) (sp : Nat) (w : World) (hI : IsB w v l) : Calls Try.prog 27 #[v, .agg (prl bp fp sp)] w (LdQ l bp fp sp w) :=
  Calls.mono (load_is v l bp fp sp w hI) fun _ _ h => ldQ_of h
theorem rloadQ (v : Value) (l : List Nat) (bp fp : Int) (sp : Nat) (w : World) (hI : IsB w v l) (hl : l.length ≤ 16777216) : Calls Try.prog 28 #[v, .agg (prl bp fp sp)] w (LdQ l bp fp sp w) :=
  Calls.mono (r10_load v l bp fp sp w hI hl) fun _ _ h => ldQ_of h
/-- what stands while the lists are asked for: the bytes, the lent ones, the two fingerprints -/
structure HS (w : World) (N1 O : Nat) (a : Option Addr) (c g gc : Nat) (l F : List Nat) (bp fp : Int) (sp sq : Nat) (wk : World) : Prop where
  data : IsB wk (.slice a l.length c) l
  own : JB wk N1 (.slice (some ⟨g, 0, none⟩) (F.length + 2) gc) (F ++ [167, 90])
  pb : Blk wk w.heap.size 37 [.int .i64 bp, .int .i64 fp, .int .u32 (sp : Int)]
  ob : Blk wk O 37 [.int .i64 bp, .int .i64 fp, .int .u32 (sq : Int)]
  below : Below w.heap.size w wk
theorem HS.keep {w : World} {N1 O : Nat} {a : Option Addr} {c g gc : Nat} {l F : List Nat} {bp fp : Int} {sp sq : Nat} {wk w' : World} (h : HS w N1 O a c g gc l F bp fp sp sq wk) (hb : Below wk.heap.size wk w') : HS w N1 O a c g gc l F bp fp sp sq w' :=
  ⟨h.data.below hb, h.own.keepAll hb, h.pb.keep hb, h.ob.keep hb, h.below.trans (hb.mono h.below.size)⟩
theorem stp_len {s s' : St} {f : Fr} (h : stp s f = some s') : s'.ps.length ≤ s.ps.length + 1 := by
  unfold stp at h
  split at h
  · cases h
  · split at h
    · cases h; simp
    · split at h
      · cases h; simp
      · cases h
theorem sts_len : ∀ (L : List Lc) (s s' : St), sts (some s) L = some s' → s'.ps.length ≤ s.ps.length + L.length := by
  intro L
  induction L with
  | nil => intro s s' h; cases h; simp
  | cons x r ih =>
    intro s s' h
    have h' : sts (stp s x.2.2) r = some s' := h
    cases hq : stp s x.2.2 with
    | none => rw [hq, sts_none] at h'; cases h'
    | some q =>
      rw [hq] at h'
      have h1 := ih q s' h'
      have h2 := stp_len hq
      rw [List.length_cons]
      omega
theorem lps_len {l : List Nat} (hb : Byt l) (bp fp : Int) (sp : Nat) : (lps (ldS l) bp fp sp).length ≤ l.length := by
  cases h : ldS l with
  | none => exact Nat.zero_le _
  | some s =>
    have hs : s.ps.length ≤ l.length := by
      unfold ldS at h
      split at h
      · cases hq : sts (some st0) (locs 0 l) with
        | none => rw [hq] at h; cases h
        | some q =>
          rw [hq] at h
          have h1 := sts_len _ _ _ hq
          have h2 := locs_len hb _ (Nat.le_refl _) 0
          simp only [Option.bind_some] at h
          split at h
          · cases h
            have h3 : st0.ps.length = 0 := rfl
            omega
          · cases h
      · cases h
    unfold lps
    simp only
    split
    · exact hs
    · exact Nat.zero_le _
abbrev PT : TypeId := 34
abbrev PLS : TypeId := 60

theorem info_ps : (Try.prog.info? 60).map (fun i => (i.zero, i.size, i.bytes)) = some (some (.slice none 0 0), 1, 24) := by kernel_rfl
/-- the marks -/
def mkstr (i : Nat) : ByteArray := if i = 0 then ⟨#[35]⟩ else if i = 1 then ⟨#[61]⟩ else if i = 2 then ⟨#[43]⟩ else ⟨#[45]⟩
def mkp (i : Nat) : List Value := [.int .u64 0, .int .i64 0, .int .i64 0, .int .i64 0, .string (mkstr i)]
theorem mkp_len (i : Nat) : (mkp i).length = 5 := rfl
theorem mkp_one (i : Nat) : ∀ u ∈ mkp i, u.oneCell' = true := by
  intro u hu
  simp only [mkp, List.mem_cons, List.mem_nil_iff, or_false] at hu
  rcases hu with rfl | rfl | rfl | rfl | rfl <;> rfl
def mk4 : List (List Value) := [mkp 0, mkp 1, mkp 2, mkp 3]
theorem mk4_at {i : Nat} (h : i < 4) : mk4[i]? = some (mkp i) := by
  have : i = 0 ∨ i = 1 ∨ i = 2 ∨ i = 3 := by omega
  rcases this with rfl | rfl | rfl | rfl <;> rfl
/-- all that is known while the lists are written full -/
structure P1 (w : World) (base : Nat) (M B : Nat) (vs : List Value) (f : Nat → List (List Value)) (wr : World) (i k : Nat) : Prop where
  in1 : In1R PT 5 mkp w base vs f wr i k
  list : JV PLS wr base (.slice (some ⟨B, 0, none⟩) 4 4) vs
  marks : JR PT 5 wr base (.slice (some ⟨M, 0, none⟩) 4 4) mk4
theorem P1.put {w : World} {base M B : Nat} {vs : List Value} {f : Nat → List (List Value)} {wr : World} {i k : Nat} (h : P1 w base M B vs f wr i k) (hM : ∀ t, t < vs.length → (vs.getD t nil).ownBlock ≠ some M) (hi : i < vs.length) (hk : k < (f i).length) {g n c : Nat} (hv : vs.getD i nil = .slice (some ⟨g, 0, none⟩) n c) : P1 w base M B vs f (wr.setCells g (k * 5) (mkp i)) i (k + 1) :=
  ⟨h.in1.put hi hk hv rfl (mkp_one i), h.in1.rows.jv (by decide) h.list hi hv _, jr_same h.marks fun b hb => setCells_heap g b (fun e => hM i hi (by rw [hv, ← e]; have : M = b := (by simpa [Value.ownBlock] using hb); rw [this]; rfl)) _ _ _⟩
theorem P1.next {w : World} {base M B : Nat} {vs : List Value} {f : Nat → List (List Value)} {wr : World} {i k : Nat} (h : P1 w base M B vs f wr i k) (hk : k = (f i).length) : P1 w base M B vs f wr (i + 1) 0 := ⟨h.in1.next hk, h.list, h.marks⟩
/-- the four lists -/
theorem four_rows {w : World} {base : Nat} {a b c d : Value} {x y : List (List Value)} (h0 : JPt w base a x) (h1 : JPt w base b y) (h2 : JPt w base c x) (h3 : JPt w base d x) (ab : ∀ g, a.ownBlock = some g → b.ownBlock ≠ some g) (ac : ∀ g, a.ownBlock = some g → c.ownBlock ≠ some g) (ad : ∀ g, a.ownBlock = some g → d.ownBlock ≠ some g) (bc : ∀ g, b.ownBlock = some g → c.ownBlock ≠ some g) (bd : ∀ g, b.ownBlock = some g → d.ownBlock ≠ some g) (cd : ∀ g, c.ownBlock = some g → d.ownBlock ≠ some g) :
    RSR PT 5 w base [a, b, c, d] (fun t => if t = 1 then y else x) := by
  have four : ∀ i, i < [a, b, c, d].length → i = 0 ∨ i = 1 ∨ i = 2 ∨ i = 3 := fun i hi => by simp at hi; omega
  refine ⟨fun i hi => ?_, fun i j g hi hj hij hg hq => ?_⟩
  · rcases four i hi with rfl | rfl | rfl | rfl
    · exact h0
    · exact h1
    · exact h2
    · exact h3
  · rcases four i hi with rfl | rfl | rfl | rfl <;> rcases four j hj with rfl | rfl | rfl | rfl
    · exact hij rfl
    · exact ab g hg hq
    · exact ac g hg hq
    · exact ad g hg hq
    · exact ab g hq hg
    · exact hij rfl
    · exact bc g hg hq
    · exact bd g hg hq
    · exact ac g hq hg
    · exact bc g hq hg
    · exact hij rfl
    · exact cd g hg hq
    · exact ad g hq hg
    · exact bd g hq hg
    · exact cd g hq hg
    · exact hij rfl
/-- two rows, the later one of a later world -/
theorem jr_apart {E : TypeId} {sz : Nat} {w1 w2 : World} {b1 b2 : Nat} {v1 v2 : Value} {x1 x2 : List (List Value)} (h1 : JR E sz w1 b1 v1 x1) (h2 : JR E sz w2 b2 v2 x2) (h : w1.heap.size ≤ b2) : ∀ g, v1.ownBlock = some g → v2.ownBlock ≠ some g := by
  intro g e1 e2
  have := h1.blk_lt g e1
  have := h2.blk_ge g e2
  omega
/-- two rows that were made one behind the other -/
theorem jr_apart2 {E : TypeId} {sz : Nat} {w2 : World} {n b2 : Nat} {v1 v2 : Value} {x2 : List (List Value)} (h1 : ∀ b, v1.ownBlock = some b → b < n) (h2 : JR E sz w2 b2 v2 x2) (h : n ≤ b2) : ∀ g, v1.ownBlock = some g → v2.ownBlock ≠ some g := by
  intro g e1 e2
  have := h1 g e1
  have := h2.blk_ge g e2
  omega
theorem jr_apart3 {E : TypeId} {sz : Nat} {w2 : World} {n b2 : Nat} {v1 v2 : Value} {x2 : List (List Value)} (h1 : ∀ b, v1.ownBlock = some b → b < n) (h2 : JR E sz w2 b2 v2 x2) (h : n ≤ b2) : ∀ g, v2.ownBlock = some g → v1.ownBlock ≠ some g := fun g e1 e2 => jr_apart2 h1 h2 h g e2 e1
theorem marks_new (w : World) (base : Nat) (hb : base ≤ w.heap.size) : JR PT 5 (w.alloc (.cells mk4.flatten.toArray PT)) base (.slice (some ⟨w.heap.size, 0, none⟩) 4 4) mk4 := by
  have hblk : Blk (w.alloc (.cells mk4.flatten.toArray PT)) w.heap.size PT mk4.flatten := Blk.new w PT mk4.flatten
  refine ⟨fun r hr => ?_, rfl, .inr ⟨w.heap.size, 4, mk4.flatten.toArray, rfl, hb, hblk, by simp [mk4], by simp [maxLen], rfl, rfl⟩⟩
  simp only [mk4, List.mem_cons, List.mem_nil_iff, or_false] at hr
  rcases hr with rfl | rfl | rfl | rfl
  · exact ⟨rfl, mkp_one 0⟩
  · exact ⟨rfl, mkp_one 1⟩
  · exact ⟨rfl, mkp_one 2⟩
  · exact ⟨rfl, mkp_one 3⟩
theorem lists_new (w : World) (base m : Nat) (a b c d : Value) (hm : w.heap.size = m) (hb : base ≤ m) (h1 : ∀ u ∈ [a, b, c, d], u.oneCell' = true) : JV PLS (w.alloc (.cells #[a, b, c, d] PLS)) base (.slice (some ⟨m, 0, none⟩) 4 4) [a, b, c, d] := by
  subst hm
  have hblk : Blk (w.alloc (.cells #[a, b, c, d] PLS)) w.heap.size PLS [a, b, c, d] := Blk.new w PLS [a, b, c, d]
  exact ⟨h1, rfl, .inr ⟨w.heap.size, 4, #[a, b, c, d], rfl, hb, hblk, by simp, by simp [maxLen], rfl, rfl⟩⟩
/-- what stands at a place of the list of lists, and of a list -/
theorem P1.cells {w : World} {base M B : Nat} {vs : List Value} {f : Nat → List (List Value)} {wr : World} {i k : Nat} (h : P1 w base M B vs f wr i k) (hi : i < vs.length) (hk : k ≤ (f i).length) : ∃ a3 c3, vs.getD i Ow.nil = .slice a3 (f i).length c3 ∧ (f i).length ≤ c3 ∧ wr.cell? ⟨B, i, none⟩ = some (.slice a3 (f i).length c3) ∧ (k < (f i).length → ∃ g3, a3 = some ⟨g3, 0, none⟩) := by
  have hcl := (h.list.at.2.2.2.2.2 i _ (getD_at hi)).1
  have hrow := h.in1.rows.row i hi
  obtain ⟨a3, c3, hv3, hle3⟩ := hrow.shape
  rw [wrg_len mkp f i k i hk] at hv3 hle3
  rw [hv3] at hcl
  refine ⟨a3, c3, hv3, hle3, hcl, fun hlt => ?_⟩
  obtain ⟨g3, c', e, _⟩ := hrow.nn (by intro e; have := wrg_len mkp f i k i hk; rw [e] at this; simp at this; omega)
  rw [hv3] at e
  injection e with e
  exact ⟨g3, e⟩
theorem P1.mark {w : World} {base M B : Nat} {vs : List Value} {f : Nat → List (List Value)} {wr : World} {i k : Nat} (h : P1 w base M B vs f wr i k) {t : Nat} (ht : t < 4) : wr.cell? ⟨M, t * 5, none⟩ = some (.int .u64 0) ∧ wr.cell? ⟨M, t * 5 + 1, none⟩ = some (.int .i64 0) ∧ wr.cell? ⟨M, t * 5 + 2, none⟩ = some (.int .i64 0) ∧ wr.cell? ⟨M, t * 5 + 3, none⟩ = some (.int .i64 0) ∧ wr.cell? ⟨M, t * 5 + 4, none⟩ = some (.string (mkstr t)) :=
  ⟨h.marks.at t _ 0 _ (mk4_at ht) rfl, h.marks.at t _ 1 _ (mk4_at ht) rfl, h.marks.at t _ 2 _ (mk4_at ht) rfl, h.marks.at t _ 3 _ (mk4_at ht) rfl, h.marks.at t _ 4 _ (mk4_at ht) rfl⟩
theorem P1.there {w : World} {base M B : Nat} {vs : List Value} {f : Nat → List (List Value)} {wr : World} {i k : Nat} (h : P1 w base M B vs f wr i k) (hi : i < vs.length) (hk : k < (f i).length) {g n c : Nat} (hv : vs.getD i Ow.nil = .slice (some ⟨g, 0, none⟩) n c) : (∃ u, wr.cell? ⟨g, k * 5, none⟩ = some u) ∧ (∃ u, wr.cell? ⟨g, k * 5 + 1, none⟩ = some u) ∧ (∃ u, wr.cell? ⟨g, k * 5 + 2, none⟩ = some u) ∧ (∃ u, wr.cell? ⟨g, k * 5 + 3, none⟩ = some u) ∧ (∃ u, wr.cell? ⟨g, k * 5 + 4, none⟩ = some u) ∧ ∀ j, j < 5 → wr.frozen? ⟨g, k * 5 + j, none⟩ = false := by
  have hrow := h.in1.rows.row i hi
  rw [hv] at hrow
  have ht := jr_thereR hrow (k := k) (by rw [wrg_len mkp f i k i (by omega)]; exact hk)
  exact ⟨Option.isSome_iff_exists.1 (ht 0 (by decide)).1, Option.isSome_iff_exists.1 (ht 1 (by decide)).1, Option.isSome_iff_exists.1 (ht 2 (by decide)).1, Option.isSome_iff_exists.1 (ht 3 (by decide)).1, Option.isSome_iff_exists.1 (ht 4 (by decide)).1, fun j hj => (ht j hj).2⟩
theorem P1.drew {w : World} {base M B : Nat} {vs : List Value} {f : Nat → List (List Value)} {wr : World} {i k : Nat} (h : P1 w base M B vs f wr i k) : P1 w base M B vs f wr.drew i k :=
  ⟨⟨⟨fun t ht => (h.in1.rows.row t ht).drew, h.in1.rows.apart⟩, h.in1.below.drew, h.in1.kept⟩, h.list, h.marks.drew⟩
/-- all that is known while the lists are made longer -/
structure P2 (w : World) (base : Nat) (M : Nat) (vs : List Value) (f : Nat → List (List Value)) (wr : World) (i : Nat) (gs : List Value) (LV : Value) : Prop where
  in2 : In2R PT 5 mkp w base vs f wr i gs
  list : JV PLS wr base LV (vs ++ gs)
  marks : JR PT 5 wr base (.slice (some ⟨M, 0, none⟩) 4 4) mk4
  fresh : ∀ b, LV.ownBlock = some b → w.heap.size ≤ b
theorem P2.marksX {w : World} {base M : Nat} {vs : List Value} {f : Nat → List (List Value)} {W wk : World} {i : Nat} {gs : List Value} {LV gv : Value} {k : Nat} (h : P2 w base M vs f W i gs LV) (hM : ∀ t, t < vs.length → (vs.getD t nil).ownBlock ≠ some M) (hi : i < vs.length) (hx : ExtR PT 5 W base (vs.getD i nil) (fug mkp f i) (mkp i) k gv wk) : JR PT 5 wk base (.slice (some ⟨M, 0, none⟩) 4 4) mk4 :=
  jr_same h.marks fun b hb => hx.block b (h.marks.blk_lt b hb) fun e => hM i hi (by rw [← e]; have : M = b := (by simpa [Value.ownBlock] using hb); rw [this])
theorem P2.listX {w : World} {base M : Nat} {vs : List Value} {f : Nat → List (List Value)} {W wk : World} {i : Nat} {gs : List Value} {LV gv : Value} {k : Nat} (h : P2 w base M vs f W i gs LV) (hi : i < vs.length) (hx : ExtR PT 5 W base (vs.getD i nil) (fug mkp f i) (mkp i) k gv wk) : JV PLS wk base LV (vs ++ gs) := h.in2.rows.jvx (by decide) h.list hi hx
theorem P2.step {w : World} {base M : Nat} {vs : List Value} {f : Nat → List (List Value)} {W wk w' : World} {i : Nat} {gs : List Value} {LV LV' gv : Value} {o : Obj} (h : P2 w base M vs f W i gs LV) (hM : ∀ t, t < vs.length → (vs.getD t nil).ownBlock ≠ some M) (hbase : base ≤ w.heap.size) (hi : i < vs.length)
    (hx : ExtR PT 5 W base (vs.getD i nil) (fug mkp f i) (mkp i) 64 gv wk) (hp : AppPost PLS (wk.alloc o) base LV (vs ++ gs) gv LV' w') : P2 w base M vs f w' (i + 1) (gs ++ [gv]) LV' := by
  have hl := h.listX hi hx
  have hr : ∀ {v : Value} {xs : List (List Value)}, JR PT 5 wk base v xs → JR PT 5 w' base v xs := fun hv => jr_after (by decide) hl hp hv
  have hsz : (wk.alloc o).heap.size = wk.heap.size + 1 := by simp
  have h1 := h.in2.kept.1
  have h2 := hx.size
  have h3 := hp.grown.size
  have hal : Below wk.heap.size wk (wk.alloc o) := (Below.refl _ _).alloc (Nat.le_refl _) o
  refine ⟨h.in2.step hbase hi hx hr ?_ ?_ (by omega), by rw [← List.append_assoc]; exact hp.row, hr (h.marksX hM hi hx), ?_⟩
  · exact ((hal.mono (by omega)).grown hp.grown (by omega) fun q hq => hl.blk_ge q hq)
  · intro b hb
    refine ⟨by omega, ?_⟩
    rw [hp.grown.block b (by omega) (fun e => by have := h.fresh b e.symm; omega)]
    exact hal.block b (by omega)
  · intro b hb
    rcases hp.way with ⟨g, cap, e1, e2⟩ | ⟨⟨g, e1, e2⟩, _⟩
    · refine h.fresh b ?_
      rw [e1]
      rw [e2] at hb
      exact hb
    · rw [e1] at hb
      injection hb with hb
      omega
theorem P1.two {w : World} {base M B : Nat} {vs : List Value} {f : Nat → List (List Value)} {wr : World} (h : P1 w base M B vs f wr vs.length 0) (hB : w.heap.size ≤ B) : P2 w base M vs f wr 0 [] (.slice (some ⟨B, 0, none⟩) 4 4) :=
  ⟨h.in1.two, by rw [List.append_nil]; exact h.list, h.marks, fun b hb => by have : B = b := (by simpa [Value.ownBlock] using hb); omega⟩
theorem P2.cells {w : World} {base M : Nat} {vs : List Value} {f : Nat → List (List Value)} {wr : World} {i n lc : Nat} {la : Option Addr} {gs : List Value} (h : P2 w base M vs f wr i gs (.slice la n lc)) (hi : i < vs.length) : ∃ lg a3 c3, la = some ⟨lg, 0, none⟩ ∧ vs.getD i Ow.nil = .slice a3 (f i).length c3 ∧ (f i).length ≤ c3 ∧ wr.cell? ⟨lg, i, none⟩ = some (.slice a3 (f i).length c3) ∧ lc ≤ maxLen := by
  have hrow := h.in2.rows.row i hi
  obtain ⟨a3, c3, hv3, hle3⟩ := hrow.shape
  rw [fug_len] at hv3 hle3
  obtain ⟨_, _, ⟨e1, e2⟩ | ⟨lg, cap, cur, e1, _⟩⟩ := h.list
  · rw [List.length_append] at e2; omega
  · injection e1 with e1 _ _
    subst e1
    obtain ⟨_, _, hm, _, _, hc⟩ := h.list.at
    have hcl := (hc i (vs.getD i Ow.nil) (by rw [List.getElem?_append_left hi]; exact getD_at hi)).1
    rw [hv3] at hcl
    exact ⟨lg, a3, c3, rfl, hv3, hle3, hcl, hm⟩
theorem jk_same {w w' : World} {base : Nat} {v : Value} {l : List Nat} (h : JB w base v l) (hb : ∀ g, v.ownBlock = some g → w'.heap[g]? = w.heap[g]?) : JB w' base v l := by
  obtain ⟨h1, h0, ⟨rfl, e⟩ | ⟨g', cap', cur, rfl, hbs, hh, hr⟩⟩ := h
  · exact ⟨h1, h0, .inl ⟨rfl, e⟩⟩
  · exact ⟨h1, h0, .inr ⟨g', cap', cur, rfl, hbs, (hb g' rfl).trans hh, hr⟩⟩
theorem HS.kept {w WA wr : World} {N1 O : Nat} {a : Option Addr} {c g gc : Nat} {l F : List Nat} {bp fp : Int} {sp sq : Nat} {vs : List Value} (h : HS w N1 O a c g gc l F bp fp sp sq WA) (hI : IsB w (.slice a l.length c) l) (hk : Kept WA wr vs) (hb : Below w.heap.size WA wr) (hn : ∀ b, b = g ∨ b = w.heap.size ∨ b = O → b < WA.heap.size ∧ ∀ t, t < vs.length → (vs.getD t nil).ownBlock ≠ some b) : HS w N1 O a c g gc l F bp fp sp sq wr := by
  have hs : ∀ b, b = g ∨ b = w.heap.size ∨ b = O → wr.heap[b]? = WA.heap[b]? := fun b hb => hk.2 b (hn b hb).1 (hn b hb).2
  refine ⟨hI.below (h.below.trans hb), jk_same h.own fun b hb => hs b (.inl ?_), (hs _ (.inr (.inl rfl))).trans h.pb, (hs _ (.inr (.inr rfl))).trans h.ob, h.below.trans hb⟩
  have : g = b := (by simpa [Value.ownBlock] using hb)
  exact this.symm
/-- two rows of unlike types in one world lie in unlike blocks -/
theorem own_ne {w : World} {b1 b2 s1 s2 n1 n2 : Nat} {v1 v2 : Value} {E1 E2 : TypeId} {x1 x2 : List Value} (h1 : w.ownsRow b1 E1 s1 v1 n1 x1) (h2 : w.ownsRow b2 E2 s2 v2 n2 x2) (hE : E1 ≠ E2) {g : Nat} (hg : v1.ownBlock = some g) : v2.ownBlock ≠ some g := by
  intro hg2
  obtain ⟨_, ⟨rfl, _⟩ | ⟨g1, c1, cur1, rfl, _, hh1, _⟩⟩ := h1
  · cases hg
  · obtain ⟨_, ⟨rfl, _⟩ | ⟨g2, c2, cur2, rfl, _, hh2, _⟩⟩ := h2
    · cases hg2
    · have e1 : g1 = g := by simpa [Value.ownBlock] using hg
      have e2 : g2 = g := by simpa [Value.ownBlock] using hg2
      rw [e1] at hh1
      rw [e2, hh1] at hh2
      injection hh2 with hh2
      injection hh2 with _ h3 _
      exact hE h3
/-- the lists, written full, and the longer ones -/
structure P3 (base : Nat) (M : Nat) (vs gs : List Value) (f : Nat → List (List Value)) (wr : World) (LV : Value) : Prop where
  rows : ∀ t, t < vs.length → JR PT 5 wr base (vs.getD t nil) (fug mkp f t)
  grow : ∀ t, t < vs.length → JR PT 5 wr base (gs.getD t nil) (fug mkp f t ++ List.replicate 64 (mkp t))
  list : JV PLS wr base LV (vs ++ gs)
  marks : JR PT 5 wr base (.slice (some ⟨M, 0, none⟩) 4 4) mk4
theorem P2.three {w : World} {base M : Nat} {vs : List Value} {f : Nat → List (List Value)} {wr : World} {gs : List Value} {LV : Value} (h : P2 w base M vs f wr vs.length gs LV) : P3 base M vs gs f wr LV := ⟨h.in2.rows.row, h.in2.grow, h.list, h.marks⟩
theorem P3.keep {base M : Nat} {vs gs : List Value} {f : Nat → List (List Value)} {wr w' : World} {LV : Value} (h : P3 base M vs gs f wr LV) (hb : Below wr.heap.size wr w') : P3 base M vs gs f w' LV :=
  ⟨fun t ht => (h.rows t ht).keepAll hb, fun t ht => (h.grow t ht).keepAll hb, h.list.below hb, h.marks.keepAll hb⟩
theorem P3.put {base M N1 n c k : Nat} {vs gs : List Value} {f : Nat → List (List Value)} {wr : World} {LV : Value} {g : Nat} {F : List Nat} {u : Value} (h : P3 base M vs gs f wr LV) (hJ : JB wr N1 (.slice (some ⟨g, 0, none⟩) n c) F) : P3 base M vs gs f (wr.setCell ⟨g, k, none⟩ u) LV := by
  have hr : ∀ {v : Value} {xs : List (List Value)}, JR PT 5 wr base v xs → JR PT 5 (wr.setCell ⟨g, k, none⟩ u) base v xs := fun {v xs} hv => jr_same hv fun b hb => set_heap wr g k b u fun e => own_ne hJ.2 hv.2 (by decide) (g := g) rfl (by rw [← e]; exact hb)
  exact ⟨fun t ht => hr (h.rows t ht), fun t ht => hr (h.grow t ht), h.list.same fun b hb => set_heap wr g k b u fun e => own_ne hJ.2 h.list.2 (by decide) (g := g) rfl (by rw [← e]; exact hb), hr h.marks⟩
theorem HS.put {w : World} {N1 O : Nat} {a : Option Addr} {c g gc : Nat} {l F : List Nat} {bp fp : Int} {sp sq : Nat} {wk : World} (h : HS w N1 O a c g gc l F bp fp sp sq wk) (hI : IsB w (.slice a l.length c) l) (hg : w.heap.size < g) (hO : g ≠ O) {k y : Nat} (hk : k < F.length) (hy : y < 256) : HS w N1 O a c g gc l (F.set k y) bp fp sp sq (wk.setCell ⟨g, k, none⟩ (.int .u8 (y : Int))) := by
  have hb : Below w.heap.size w (wk.setCell ⟨g, k, none⟩ (.int .u8 (y : Int))) := h.below.setCell (p := ⟨g, k, none⟩) (Nat.le_of_lt hg) _
  refine ⟨hI.below hb, ?_, Blk.other (p := ⟨g, k, none⟩) h.pb (fun e => by simp only at e; omega) _, Blk.other (p := ⟨g, k, none⟩) h.ob hO _, hb⟩
  have := JB.set (j := k) h.own (by rw [List.length_append]; rfl) hy
  rw [List.set_append_left _ _ hk] at this
  rw [List.length_set]
  exact this
theorem HS.lent {w : World} {N1 O : Nat} {a : Option Addr} {c g gc : Nat} {l F : List Nat} {bp fp : Int} {sp sq : Nat} {wk : World} (h : HS w N1 O a c g gc l F bp fp sp sq wk) {n : Nat} (hn : F.length = n) : IsB wk (.slice (some ⟨g, 0, none⟩) n gc) F := by
  rw [← hn]; exact lent2_isB h.own
theorem eq_mk (t : Nat) (w : World) : (binOp .eql 34 (.agg #[.int .u64 0, .int .i64 0, .int .i64 0, .int .i64 0, .string (mkstr t)]) (.agg #[.int .u64 0, .int .i64 0, .int .i64 0, .int .i64 0, .string (mkstr t)])).run Try.prog w = .ok (.bool true) w := by
  simp [go_sem, Op.eqFields]
theorem jk_frozen {w : World} {base g n c : Nat} {l : List Nat} (h : JB w base (.slice (some ⟨g, 0, none⟩) n c) l) (k : Nat) : w.frozen? ⟨g, k, none⟩ = false := by
  obtain ⟨h1, h0, ⟨e, _⟩ | ⟨g', cap', cur, e, hbs, hh, hr⟩⟩ := h
  · cases e
  · injection e with e
    injection e with e
    injection e with e
    subst e
    simp [World.frozen?, hh]
theorem gc_lim {w : World} {base g n c : Nat} {l : List Nat} (h : JB w base (.slice (some ⟨g, 0, none⟩) n c) (l ++ [167, 90])) : l.length + 2 ≤ c ∧ c ≤ 9223372036854775807 := by
  obtain ⟨h1, h0, ⟨e, _⟩ | ⟨g', cap', cur, e, hbs, hh, hl, hm, hr⟩⟩ := h
  · cases e
  · injection e with _ e2 e3
    rw [List.length_append] at hl
    simp at hl
    unfold maxLen at hm
    omega
theorem P3.cells {base M : Nat} {vs gs : List Value} {f : Nat → List (List Value)} {wr : World} {la : Option Addr} {lc : Nat} (h : P3 base M vs gs f wr (.slice la 8 lc)) (hv : vs.length = 4) (hg : gs.length = 4) (hf : ∀ t, (f t).length ≤ 1048576) : ∃ lg, la = some ⟨lg, 0, none⟩ ∧ 8 ≤ lc ∧ lc ≤ maxLen ∧ ∀ i, i < 8 → ∃ a n c, wr.cell? ⟨lg, i, none⟩ = some (.slice a n c) ∧ n ≤ c ∧ n ≤ 1048640 ∧ ∀ k, k < n → ∃ g3, a = some ⟨g3, 0, none⟩ ∧ wr.cell? ⟨g3, k * 5, none⟩ = some (.int .u64 0) ∧ wr.cell? ⟨g3, k * 5 + 1, none⟩ = some (.int .i64 0) ∧ wr.cell? ⟨g3, k * 5 + 2, none⟩ = some (.int .i64 0) ∧ wr.cell? ⟨g3, k * 5 + 3, none⟩ = some (.int .i64 0) ∧ wr.cell? ⟨g3, k * 5 + 4, none⟩ = some (.string (mkstr (i % 4))) := by
  have hl8 : (vs ++ gs).length = 8 := by rw [List.length_append, hv, hg]
  -- a list that came out full
  have row : ∀ (v : Value) (t : Nat) (xs : List (List Value)), JR PT 5 wr base v xs → xs.length ≤ 1048640 → (∀ k, k < xs.length → xs[k]? = some (mkp t)) → ∃ a n c, v = .slice a n c ∧ n ≤ c ∧ n ≤ 1048640 ∧ ∀ k, k < n → ∃ g3, a = some ⟨g3, 0, none⟩ ∧ wr.cell? ⟨g3, k * 5, none⟩ = some (.int .u64 0) ∧ wr.cell? ⟨g3, k * 5 + 1, none⟩ = some (.int .i64 0) ∧ wr.cell? ⟨g3, k * 5 + 2, none⟩ = some (.int .i64 0) ∧ wr.cell? ⟨g3, k * 5 + 3, none⟩ = some (.int .i64 0) ∧ wr.cell? ⟨g3, k * 5 + 4, none⟩ = some (.string (mkstr t)) := by
    intro v t xs hj hx hk
    obtain ⟨a, c, e, hc⟩ := hj.shape
    refine ⟨a, xs.length, c, e, hc, hx, fun k hlt => ?_⟩
    obtain ⟨g3, c3, e3, _⟩ := hj.nn (by intro q; rw [q] at hlt; simp at hlt)
    rw [e] at e3
    injection e3 with e3 _ _
    subst e3
    rw [e] at hj
    exact ⟨g3, rfl, hj.at k _ 0 _ (hk k hlt) rfl, hj.at k _ 1 _ (hk k hlt) rfl, hj.at k _ 2 _ (hk k hlt) rfl, hj.at k _ 3 _ (hk k hlt) rfl, hj.at k _ 4 _ (hk k hlt) rfl⟩
  obtain ⟨_, _, ⟨e1, e2⟩ | ⟨lg, cap, cur, e1, _⟩⟩ := h.list
  · omega
  · injection e1 with e1 _ _
    subst e1
    obtain ⟨_, hc, hm, _, _, hcl⟩ := h.list.at
    refine ⟨lg, rfl, hc, hm, fun i hi => ?_⟩
    by_cases h4 : i < 4
    · obtain ⟨a, n, c, e, h1, h2, h3⟩ := row _ i _ (h.rows i (by omega)) (by rw [fug_len]; have := hf i; omega) (fun k hk => by rw [fug_len] at hk; exact fug_at mkp f i k hk)
      have := (hcl i (vs.getD i Ow.nil) (by rw [List.getElem?_append_left (by omega)]; exact getD_at (by omega))).1
      rw [e] at this
      refine ⟨a, n, c, this, h1, h2, ?_⟩
      rw [Nat.mod_eq_of_lt h4]; exact h3
    · obtain ⟨a, n, c, e, h1, h2, h3⟩ := row _ (i - 4) _ (h.grow (i - 4) (by omega)) (by rw [long_len]; have := hf (i - 4); omega) (fun k hk => by rw [long_len] at hk; exact long_at mkp f (i - 4) k hk)
      have := (hcl i (gs.getD (i - 4) Ow.nil) (by rw [List.getElem?_append_right (by omega), hv]; exact getD_at (by omega))).1
      rw [e] at this
      refine ⟨a, n, c, this, h1, h2, ?_⟩
      rw [show i % 4 = i - 4 by omega]; exact h3
theorem P3.mark {base M : Nat} {vs gs : List Value} {f : Nat → List (List Value)} {wr : World} {LV : Value} (h : P3 base M vs gs f wr LV) {t : Nat} (ht : t < 4) : wr.cell? ⟨M, t * 5, none⟩ = some (.int .u64 0) ∧ wr.cell? ⟨M, t * 5 + 1, none⟩ = some (.int .i64 0) ∧ wr.cell? ⟨M, t * 5 + 2, none⟩ = some (.int .i64 0) ∧ wr.cell? ⟨M, t * 5 + 3, none⟩ = some (.int .i64 0) ∧ wr.cell? ⟨M, t * 5 + 4, none⟩ = some (.string (mkstr t)) :=
  ⟨h.marks.at t _ 0 _ (mk4_at ht) rfl, h.marks.at t _ 1 _ (mk4_at ht) rfl, h.marks.at t _ 2 _ (mk4_at ht) rfl, h.marks.at t _ 3 _ (mk4_at ht) rfl, h.marks.at t _ 4 _ (mk4_at ht) rfl⟩
set_option pp.maxSteps 1000000 in
set_option maxRecDepth 100000 in
set_option maxHeartbeats 40000000 in
theorem loads_walk (v : Value) (l : List Nat) (bp fp : Int) (sp : Nat) (w : World) (hI : IsB w v l) (_ : sp < 4294967296) (hm : l.length ≤ 1048576) :
    Calls Try.prog 5 #[v, .agg (prl bp fp sp)] w fun e w' => e = .returned (.bool true) ∧ Below w.heap.size w w' := by
  obtain ⟨a, c, rfl⟩ := hI.shape
  have HI := hd hI
  clear hI
  have hmx : Try.prog.follows .mixedOrders = true := by kernel_rfl
  simp only [prl]
  go_enter Try.func5, Try.ntmps5
  go_wp2_with fail
  refine Calls.mono (hknown_is _) ?_
  rintro e w1 ⟨rfl, b1⟩
  have HPW := hd ((Blk.new w 37 [.int .i64 bp, .int .i64 fp, .int .u32 (sp : Int)]).keep b1)
  have HB1 := hd (below_alloc1 b1)
  have hsz := b1.size
  rw [World.size_alloc] at hsz
  have HI1 := hd (HI.out.below HB1.out)
  clear b1
  go_wp2_with fail
  refine Calls.mono (hlent_is _ l w1 HI1.out (by omega)) ?_
  rintro e w2 ⟨g, gc, rfl, j2, b2⟩
  have hgg : g < w2.heap.size := j2.blk_lt g rfl
  have hgw : w1.heap.size ≤ g := JK.blk_ge (k := .u8) (M := 256) (E := 5) j2 g rfl
  have HJ2 := hd j2
  have HI2 := hd (HI1.out.below b2)
  have HB2 := hd (HB1.out.trans (b2.mono HB1.out.size))
  have HPW2 := hd (HPW.out.keep b2)
  have hs12 := b2.size
  clear j2 b2 HI1 HB1 HPW
  have p0 := HPW2.out.cell 0 _ rfl
  have p1 := HPW2.out.cell 1 _ rfl
  have p2 := HPW2.out.cell 2 _ rfl
  have pf0 := HPW2.out.frozen 0
  have pf1 := HPW2.out.frozen 1
  have pf2 := HPW2.out.frozen 2
  have HL2 := hd (lent2_isB HJ2.out)
  have n1 : ¬ w.heap.size = w2.heap.size := by omega
  have n2 : ¬ w2.heap.size = w.heap.size := by omega
  have n3 : w.heap.size < w2.heap.size := by omega
  go_wp2_with fail
  obtain ⟨sq, hsq⟩ : ∃ sq : Nat, ((sp : Int) + 1) % 4294967296 = (sq : Int) := ⟨(sp + 1) % 4294967296, by omega⟩
  rw [hsq]
  have hsq2 : sq < 4294967296 := by omega
  have HS2 : Hid (HS w w1.heap.size w2.heap.size a c g gc l l bp fp sp sq (w2.alloc (.cells #[.int .i64 bp, .int .i64 fp, .int .u32 (sq : Int)] 37))) := ⟨HI2.out.below ((Below.refl _ _).alloc (Nat.le_refl _) _), HJ2.out.keepAll ((Below.refl _ _).alloc (Nat.le_refl _) _), HPW2.out.alloc _, Blk.new w2 37 [.int .i64 bp, .int .i64 fp, .int .u32 (sq : Int)], HB2.out.alloc HB2.out.size _⟩
  obtain ⟨wo, hwo⟩ : ∃ wo, wo = w2.alloc (.cells #[.int .i64 bp, .int .i64 fp, .int .u32 (sq : Int)] 37) := ⟨_, rfl⟩
  rw [← hwo] at HS2 ⊢
  have hzo : w.heap.size ≤ wo.heap.size := HS2.out.below.size
  have hgo : g < wo.heap.size := HS2.out.own.blk_lt g rfl
  have hoo : w2.heap.size < wo.heap.size := HS2.out.ob.lt
  have hwo2 : w.heap.size < wo.heap.size := HS2.out.pb.lt
  clear hsq hwo p0 p1 p2 pf0 pf1 pf2 HL2 HJ2 HI2 HB2 HPW2
  refine Calls.mono (loadQ _ l bp fp sp wo (lent2_isB HS2.out.own)) ?_
  rintro e w3 ⟨⟨ax, cx, rfl, jx⟩, bx⟩
  have HS3 := hd (HS2.out.keep bx)
  have Lx : Hid (∀ b, (Value.slice ax (lps (ldS l) bp fp sp).length cx).ownBlock = some b → b < w3.heap.size) := fun b hb => jx.blk_lt b hb
  have Jx := hd jx
  have hzx := bx.size
  clear jx bx HS2
  have q0 := HS3.out.pb.cell 0 _ rfl
  have q1 := HS3.out.pb.cell 1 _ rfl
  have q2 := HS3.out.pb.cell 2 _ rfl
  have o0 := HS3.out.ob.cell 0 _ rfl
  have o1 := HS3.out.ob.cell 1 _ rfl
  have o2 := HS3.out.ob.cell 2 _ rfl
  go_wp2_with fail
  clear q0 q1 q2 o0 o1 o2
  refine Calls.mono (loadQ _ l bp fp sp w3 (lent2_isB HS3.out.own)) ?_
  rintro e w4 ⟨⟨am, cm, rfl, jm⟩, bm⟩
  have HS4 := hd (HS3.out.keep bm)
  have Jx := hd (Jx.out.keepAll bm)
  have Lm : Hid (∀ b, (Value.slice am (lps (ldS l) bp fp sp).length cm).ownBlock = some b → b < w4.heap.size) := fun b hb => jm.blk_lt b hb
  have Jm := hd jm
  have hzm := bm.size
  clear jm bm HS3
  have q0 := HS4.out.pb.cell 0 _ rfl
  have q1 := HS4.out.pb.cell 1 _ rfl
  have q2 := HS4.out.pb.cell 2 _ rfl
  have o0 := HS4.out.ob.cell 0 _ rfl
  have o1 := HS4.out.ob.cell 1 _ rfl
  have o2 := HS4.out.ob.cell 2 _ rfl
  go_wp2_with fail
  clear q0 q1 q2 o0 o1 o2
  refine Calls.mono (loadQ _ l bp fp sq w4 (lent2_isB HS4.out.own)) ?_
  rintro e w5 ⟨⟨az, cz, rfl, jz⟩, bz⟩
  have HS5 := hd (HS4.out.keep bz)
  have Jx := hd (Jx.out.keepAll bz)
  have Jm := hd (Jm.out.keepAll bz)
  have Lz : Hid (∀ b, (Value.slice az (lps (ldS l) bp fp sq).length cz).ownBlock = some b → b < w5.heap.size) := fun b hb => jz.blk_lt b hb
  have Jz := hd jz
  have hzz := bz.size
  clear jz bz HS4
  have q0 := HS5.out.pb.cell 0 _ rfl
  have q1 := HS5.out.pb.cell 1 _ rfl
  have q2 := HS5.out.pb.cell 2 _ rfl
  have o0 := HS5.out.ob.cell 0 _ rfl
  have o1 := HS5.out.ob.cell 1 _ rfl
  have o2 := HS5.out.ob.cell 2 _ rfl
  go_wp2_with fail
  clear q0 q1 q2 o0 o1 o2
  refine Calls.mono (loadQ _ l bp fp sp w5 (lent2_isB HS5.out.own)) ?_
  rintro e w6 ⟨⟨au, cu, rfl, ju⟩, bu⟩
  have HS6 := hd (HS5.out.keep bu)
  have Jx := hd (Jx.out.keepAll bu)
  have Jm := hd (Jm.out.keepAll bu)
  have Jz := hd (Jz.out.keepAll bu)
  have Lu : Hid (∀ b, (Value.slice au (lps (ldS l) bp fp sp).length cu).ownBlock = some b → b < w6.heap.size) := fun b hb => ju.blk_lt b hb
  have Ju := hd ju
  have hzu := bu.size
  clear ju bu HS5
  have q0 := HS6.out.pb.cell 0 _ rfl
  have q1 := HS6.out.pb.cell 1 _ rfl
  have q2 := HS6.out.pb.cell 2 _ rfl
  have o0 := HS6.out.ob.cell 0 _ rfl
  have o1 := HS6.out.ob.cell 1 _ rfl
  have o2 := HS6.out.ob.cell 2 _ rfl
  go_wp2_with fail
  clear q0 q1 q2 o0 o1 o2
  refine Calls.mono (rloadQ _ l bp fp sp w6 HS6.out.data (by omega)) ?_
  rintro e w7 ⟨⟨ay, cy, rfl, jy⟩, byy⟩
  have HS7 := hd (HS6.out.keep byy)
  have Jx := hd (Jx.out.keepAll byy)
  have Jm := hd (Jm.out.keepAll byy)
  have Jz := hd (Jz.out.keepAll byy)
  have Ju := hd (Ju.out.keepAll byy)
  have Ly : Hid (∀ b, (Value.slice ay (lps (ldS l) bp fp sp).length cy).ownBlock = some b → b < w7.heap.size) := fun b hb => jy.blk_lt b hb
  have Jyy := hd jy
  have hzy := byy.size
  clear jy byy HS6
  have q0 := HS7.out.pb.cell 0 _ rfl
  have q1 := HS7.out.pb.cell 1 _ rfl
  have q2 := HS7.out.pb.cell 2 _ rfl
  have o0 := HS7.out.ob.cell 0 _ rfl
  have o1 := HS7.out.ob.cell 1 _ rfl
  have o2 := HS7.out.ob.cell 2 _ rfl
  go_wp2_with fail
  clear q0 q1 q2 o0 o1 o2
  refine Calls.mono (rloadQ _ l bp fp sq w7 HS7.out.data (by omega)) ?_
  rintro e w8 ⟨⟨ap, cp, rfl, jp⟩, bp⟩
  have HS8 := hd (HS7.out.keep bp)
  have Jx := hd (Jx.out.keepAll bp)
  have Jm := hd (Jm.out.keepAll bp)
  have Jz := hd (Jz.out.keepAll bp)
  have Ju := hd (Ju.out.keepAll bp)
  have Jyy := hd (Jyy.out.keepAll bp)
  have Jp := hd jp
  have hzp := bp.size
  clear jp bp HS7
  have q0 := HS8.out.pb.cell 0 _ rfl
  have q1 := HS8.out.pb.cell 1 _ rfl
  have q2 := HS8.out.pb.cell 2 _ rfl
  have o0 := HS8.out.ob.cell 0 _ rfl
  have o1 := HS8.out.ob.cell 1 _ rfl
  have o2 := HS8.out.ob.cell 2 _ rfl
  go_wp2_with fail
  clear q0 q1 q2 o0 o1 o2
  have hps := lps_len HI.out.1 bp fp sp
  have hqs := lps_len HI.out.1 bp fp sq
  refine Calls.mono (hkept_is g gc w1.heap.size l _ w8 HS8.out.own HS8.out.data (by omega)) ?_
  rintro e w9 ⟨rfl, b9⟩
  have HS9 := hd (HS8.out.keep b9)
  have Jx := hd (Jx.out.keepAll b9)
  have Jm := hd (Jm.out.keepAll b9)
  have Jz := hd (Jz.out.keepAll b9)
  have Ju := hd (Ju.out.keepAll b9)
  have Jyy := hd (Jyy.out.keepAll b9)
  have Jp := hd (Jp.out.keepAll b9)
  have hz9 := b9.size
  clear b9 HS8
  go_wp2_with fail
  refine Calls.mono (hptrs_is _ _ _ _ (lps (ldS l) bp fp sp) w9 Jx.out Jyy.out) ?_
  rintro e w10 ⟨rfl, nw10, rfl⟩
  go_wp2_with fail
  refine Calls.mono (hptrs_is _ _ _ _ (lps (ldS l) bp fp sp) _ Ju.out Jyy.out) ?_
  rintro e w11 ⟨rfl, nw11, rfl⟩
  go_wp2_with fail
  refine Calls.mono (hptrs_is _ _ _ _ (lps (ldS l) bp fp sp) _ Jm.out Jyy.out) ?_
  rintro e w12 ⟨rfl, nw12, rfl⟩
  go_wp2_with fail
  refine Calls.mono (hptrs_is _ _ _ _ (lps (ldS l) bp fp sq) _ Jz.out Jp.out) ?_
  rintro e w13 ⟨rfl, nw13, rfl⟩
  go_wp2_with fail
  obtain ⟨nn, hnn⟩ : ∃ nn, nn = nw10 + nw11 + nw12 + nw13 := ⟨_, rfl⟩
  rw [← hnn]
  have hx1 := HS9.out.below.size
  obtain ⟨ps, hpse⟩ : ∃ ps, lps (ldS l) bp fp sp = ps := ⟨_, rfl⟩
  obtain ⟨qs, hqse⟩ : ∃ qs, lps (ldS l) bp fp sq = qs := ⟨_, rfl⟩
  rw [hpse] at Jx Jm Ju Jyy Lx Lm Lu Ly hps ⊢
  rw [hqse] at Jz Jp Lz hqs ⊢
  obtain ⟨WA, hWA⟩ : ∃ WA, WA = (w9.drewN nn).alloc (.cells #[.int .u64 0, .int .i64 0, .int .i64 0, .int .i64 0, .string ⟨#[35]⟩, .int .u64 0, .int .i64 0, .int .i64 0, .int .i64 0, .string ⟨#[61]⟩, .int .u64 0, .int .i64 0, .int .i64 0, .int .i64 0, .string ⟨#[43]⟩, .int .u64 0, .int .i64 0, .int .i64 0, .int .i64 0, .string ⟨#[45]⟩] 34) := ⟨_, rfl⟩
  have hwa : WA.heap.size = w9.heap.size + 1 := by rw [hWA]; simp
  rw [← hWA]
  obtain ⟨WB, hWB⟩ : ∃ WB, WB = WA.alloc (.cells #[.slice ax ps.length cx, .slice az qs.length cz, .slice au ps.length cu, .slice am ps.length cm] 60) := ⟨_, rfl⟩
  have HPS := hd hpse
  have HQS := hd hqse
  clear hpse hqse
  have hP1 : P1 WA w.heap.size w9.heap.size (w9.heap.size + 1) [.slice ax ps.length cx, .slice az qs.length cz, .slice au ps.length cu, .slice am ps.length cm] (fun t => if t = 1 then qs.map pvl else ps.map pvl) WB 0 0 := by
    have hx := Jx.out
    have hz := Jz.out
    have hu := Ju.out
    have hm := Jm.out
    have hk : Below w9.heap.size w9 WB := by rw [hWB, hWA]; exact ((below_drewN (Below.refl _ _) _).alloc (Nat.le_refl _) _).alloc (by simp) _
    refine ⟨In1R.start (four_rows ((hx.keepAll hk).lower (by omega)) ((hz.keepAll hk).lower (by omega)) ((hu.keepAll hk).lower (by omega)) ((hm.keepAll hk).lower (by omega)) ?_ ?_ ?_ ?_ ?_ ?_) (by rw [hWB]; exact (Below.refl _ _).alloc (by omega) _) (by rw [hWB]; exact ⟨by simp, fun b hb _ => ((Below.refl WA.heap.size WA).alloc (Nat.le_refl _) _).block b hb⟩), ?_, ?_⟩
    · exact jr_apart2 Lx.out hz (by omega)
    · exact jr_apart2 Lx.out hu (by omega)
    · exact jr_apart2 Lx.out hm (by omega)
    · exact jr_apart2 Lz.out hu (by omega)
    · exact jr_apart3 Lm.out hz (by omega)
    · exact jr_apart3 Lm.out hu (by omega)
    · rw [hWB]
      exact lists_new _ _ _ _ _ _ _ hwa (by omega) (by intro u hu; simp only [List.mem_cons, List.mem_nil_iff, or_false] at hu; rcases hu with rfl | rfl | rfl | rfl <;> rfl)
    · rw [hWB, hWA]
      exact (marks_new (w9.drewN nn) w.heap.size hx1).alloc _
  have HKA : Hid (Below w9.heap.size w9 WA) := by rw [hWA]; exact (below_drewN (Below.refl _ _) _).alloc (Nat.le_refl _) _
  have HSA := hd (HS9.out.keep HKA.out)
  have HYA := hd (Jyy.out.keepAll HKA.out)
  rw [← hWB]
  have hwb : WB.heap.size = w9.heap.size + 2 := by rw [hWB, World.size_alloc, hwa]
  have HPB := hd hP1
  clear hP1 hWB hnn hWA
  have HV : Hid (∃ vs, vs = [Value.slice ax ps.length cx, .slice az qs.length cz, .slice au ps.length cu, .slice am ps.length cm]) := ⟨_, rfl⟩
  obtain ⟨vs, hvs⟩ := HV.out
  obtain ⟨f, hf⟩ : ∃ f : Nat → List (List Value), f = fun t => if t = 1 then qs.map pvl else ps.map pvl := ⟨_, rfl⟩
  have hvl : vs.length = 4 := by rw [hvs]; rfl
  have hfl : ∀ t, (f t).length ≤ 1048576 := by intro t; rw [hf]; simp only; split <;> simp <;> omega
  have HMA : Hid (∀ t, t < vs.length → (vs.getD t nil).ownBlock ≠ some w9.heap.size) := by
    intro t ht e
    have hx := Jx.out
    have hz := Jz.out
    have hu := Ju.out
    have hm := Jm.out
    rw [hvl] at ht
    have : t = 0 ∨ t = 1 ∨ t = 2 ∨ t = 3 := by omega
    rw [hvs] at e
    rcases this with rfl | rfl | rfl | rfl
    · exact Nat.lt_irrefl _ (hx.blk_lt _ e)
    · exact Nat.lt_irrefl _ (hz.blk_lt _ e)
    · exact Nat.lt_irrefl _ (hu.blk_lt _ e)
    · exact Nat.lt_irrefl _ (hm.blk_lt _ e)
  have HNB : Hid (∀ b, b < wo.heap.size → ∀ t, t < vs.length → (vs.getD t nil).ownBlock ≠ some b) := by
    intro b hb t ht e
    have hx := Jx.out
    have hz := Jz.out
    have hu := Ju.out
    have hm := Jm.out
    rw [hvl] at ht
    have : t = 0 ∨ t = 1 ∨ t = 2 ∨ t = 3 := by omega
    rw [hvs] at e
    rcases this with rfl | rfl | rfl | rfl
    · have := hx.blk_ge b e
      omega
    · have := hz.blk_ge b e
      omega
    · have := hu.blk_ge b e
      omega
    · have := hm.blk_ge b e
      omega
  have HYB : Hid (∀ b, (Value.slice ay ps.length cy).ownBlock = some b → ∀ t, t < vs.length → (vs.getD t nil).ownBlock ≠ some b) := by
    intro b hb t ht e
    have hge := Jyy.out.blk_ge b hb
    rw [hvl] at ht
    have : t = 0 ∨ t = 1 ∨ t = 2 ∨ t = 3 := by omega
    rw [hvs] at e
    rcases this with rfl | rfl | rfl | rfl
    · have := Lx.out b e
      omega
    · have := Lz.out b e
      omega
    · have := Lu.out b e
      omega
    · have := Lm.out b e
      omega
  rw [← hvs, ← hf] at HPB
  have HVS := hd hvs
  have HF := hd hf
  have HVL := hd hvl
  clear hvs hf HV
  go_loopw [25] (fun x wr => ∃ i : Nat, i ≤ 4 ∧ x = .int .i64 (i : Int) ∧ P1 WA w.heap.size w9.heap.size (w9.heap.size + 1) vs f wr i 0) (fun x _ => 4 - (intOf x).toNat)
  case atStart => exact ⟨0, by omega, rfl, HPB.out⟩
  case round =>
    obtain ⟨i, hi, rfl, hI⟩ := hrel
    have HI2 := hd hI
    clear hI HPB
    by_cases hlt : i < 4
    · have hii : ((i : Nat) : Int) < 4 := by omega
      have HLT : Hid (i + 1 ≤ 4) := hlt
      have hfi := hfl i
      clear hi
      go_wp2_with fail
      go_loopw [26] (fun x wr => ∃ k : Nat, k ≤ (f i).length ∧ x = .int .i64 (k : Int) ∧ P1 WA w.heap.size w9.heap.size (w9.heap.size + 1) vs f wr i k) (fun x _ => (f i).length - (intOf x).toNat)
      case atStart => exact ⟨0, by omega, rfl, HI2.out⟩
      case round =>
        obtain ⟨k, hk, rfl, hI⟩ := hrel
        have HI3 := hd hI
        obtain ⟨a3, c3, hv3, hle3, hcl, hg3⟩ := hI.cells (by omega) hk
        have hcap := (hI.list.at).2.2.1
        clear hI HI2
        by_cases hkl : k < (f i).length
        · have hki : ((k : Nat) : Int) < ((f i).length : Int) := by omega
          have HKL : Hid (k + 1 ≤ (f i).length) := hkl
          obtain ⟨g3, rfl⟩ := hg3 hkl
          obtain ⟨m0, m1, m2, m3, m4⟩ := HI3.out.mark (t := i) HLT.out
          obtain ⟨⟨x0, s0⟩, ⟨x1, s1⟩, ⟨x2, s2⟩, ⟨x3, s3⟩, ⟨x4, s4⟩, hfz⟩ := HI3.out.there (by rw [HVL.out]; exact HLT.out) HKL.out hv3
          have z0 := hfz 0 (by decide)
          have z1 := hfz 1 (by decide)
          have z2 := hfz 2 (by decide)
          have z3 := hfz 3 (by decide)
          have z4 := hfz 4 (by decide)
          rw [Nat.add_zero] at z0
          clear hfz
          have HV3 := hd hv3
          clear hg3 hv3
          go_wp2_with fail
          refine region_end (fun ri => match ri with
            | 0 => Value.slice (some { block := w9.heap.size + 1, off := 0 }) 4 4
            | 1 => Value.int IntKind.i64 (i : Int)
            | 2 => .pointer (some ⟨w9.heap.size + 1, i, none⟩)
            | 3 => .slice (some ⟨g3, 0, none⟩) (f i).length c3
            | 4 => Value.int IntKind.i64 (k : Int)
            | 5 => Value.slice (some { block := w9.heap.size, off := 0 }) 4 4
            | 6 => Value.int IntKind.i64 (i : Int)
            | 7 => .pointer (some ⟨w9.heap.size, i * 5, none⟩)
            | 8 => .agg #[.int .u64 0, .int .i64 0, .int .i64 0, .int .i64 0, .string (mkstr i)]
            | 9 => .pointer (some ⟨g3, k * 5, none⟩)
            | 10 => undef
            | _ => undef) 10 hmx (by kernel_rfl) (by kernel_rfl) (by kernel_rfl) (by kernel_rfl) ?_ ?_
          · intro ri ro hiE ho ra hout haf
            have ee23 := getq (show ra.tmps.getD 23 undef = Value.slice (some { block := w9.heap.size, off := 0 }) 4 4 from hout 23 (notDst_spec (by kernel_rfl)))
            have ee24 := getq (show ra.tmps.getD 24 undef = Value.slice (some { block := w9.heap.size + 1, off := 0 }) 4 4 from hout 24 (notDst_spec (by kernel_rfl)))
            have ee25 := getq (show ra.tmps.getD 25 undef = Value.int IntKind.i64 (i : Int) from hout 25 (notDst_spec (by kernel_rfl)))
            have ee26 := getq (show ra.tmps.getD 26 undef = Value.int IntKind.i64 (k : Int) from hout 26 (notDst_spec (by kernel_rfl)))
            clear hout
            match ri, hiE, ho, haf with
            | 0, hiE, ho, haf =>
              obtain rfl := Option.some.inj ho
              refine step_c (w' := wr.drew) rfl fun K hK => ?_
              simp only [List.getElem_toArray, List.getElem_cons_zero] at hK ⊢
              clear haf ho hiE
              go_simp
              exact hK
            | 1, hiE, ho, haf =>
              obtain rfl := Option.some.inj ho
              refine step_c (w' := wr.drew) rfl fun K hK => ?_
              simp only [List.getElem_toArray, List.getElem_cons_succ, List.getElem_cons_zero] at hK ⊢
              clear haf ho hiE
              go_simp
              exact hK
            | 2, hiE, ho, haf =>
              obtain rfl := Option.some.inj ho
              have f0 := getq (show ra.tmps.getD 156 undef = Value.slice (some { block := w9.heap.size + 1, off := 0 }) 4 4 from haf ⟨0, .data⟩ (by simp) rfl 156 rfl)
              have f1 := getq (show ra.tmps.getD 157 undef = Value.int IntKind.i64 (i : Int) from haf ⟨1, .data⟩ (by simp) rfl 157 rfl)
              refine step_c (w' := wr.drew) rfl fun K hK => ?_
              simp only [List.getElem_toArray, List.getElem_cons_succ, List.getElem_cons_zero] at hK ⊢
              clear haf ho hiE
              go_simp
              exact hK
            | 3, hiE, ho, haf =>
              obtain rfl := Option.some.inj ho
              have f2 := getq (show ra.tmps.getD 158 undef = .pointer (some ⟨w9.heap.size + 1, i, none⟩) from haf ⟨2, .data⟩ (by simp) rfl 158 rfl)
              refine step_c (w' := wr.drew) rfl fun K hK => ?_
              simp only [List.getElem_toArray, List.getElem_cons_succ, List.getElem_cons_zero] at hK ⊢
              clear haf ho hiE
              go_simp
              exact hK
            | 4, hiE, ho, haf =>
              obtain rfl := Option.some.inj ho
              refine step_c (w' := wr.drew) rfl fun K hK => ?_
              simp only [List.getElem_toArray, List.getElem_cons_succ, List.getElem_cons_zero] at hK ⊢
              clear haf ho hiE
              go_simp
              exact hK
            | 5, hiE, ho, haf =>
              obtain rfl := Option.some.inj ho
              refine step_c (w' := wr.drew) rfl fun K hK => ?_
              simp only [List.getElem_toArray, List.getElem_cons_succ, List.getElem_cons_zero] at hK ⊢
              clear haf ho hiE
              go_simp
              exact hK
            | 6, hiE, ho, haf =>
              obtain rfl := Option.some.inj ho
              refine step_c (w' := wr.drew) rfl fun K hK => ?_
              simp only [List.getElem_toArray, List.getElem_cons_succ, List.getElem_cons_zero] at hK ⊢
              clear haf ho hiE
              go_simp
              exact hK
            | 7, hiE, ho, haf =>
              obtain rfl := Option.some.inj ho
              have f5 := getq (show ra.tmps.getD 161 undef = Value.slice (some { block := w9.heap.size, off := 0 }) 4 4 from haf ⟨5, .data⟩ (by simp) rfl 161 rfl)
              have f6 := getq (show ra.tmps.getD 162 undef = Value.int IntKind.i64 (i : Int) from haf ⟨6, .data⟩ (by simp) rfl 162 rfl)
              refine step_c (w' := wr.drew) rfl fun K hK => ?_
              simp only [List.getElem_toArray, List.getElem_cons_succ, List.getElem_cons_zero] at hK ⊢
              clear haf ho hiE
              go_simp
              exact hK
            | 8, hiE, ho, haf =>
              obtain rfl := Option.some.inj ho
              have f7 := getq (show ra.tmps.getD 163 undef = .pointer (some ⟨w9.heap.size, i * 5, none⟩) from haf ⟨7, .data⟩ (by simp) rfl 163 rfl)
              refine step_c (w' := wr.drew) rfl fun K hK => ?_
              simp only [List.getElem_toArray, List.getElem_cons_succ, List.getElem_cons_zero] at hK ⊢
              clear haf ho hiE
              go_simp
              exact hK
            | 9, hiE, ho, haf =>
              obtain rfl := Option.some.inj ho
              have f3 := getq (show ra.tmps.getD 159 undef = .slice (some ⟨g3, 0, none⟩) (f i).length c3 from haf ⟨3, .data⟩ (by simp) rfl 159 rfl)
              have f4 := getq (show ra.tmps.getD 160 undef = Value.int IntKind.i64 (k : Int) from haf ⟨4, .data⟩ (by simp) rfl 160 rfl)
              refine step_c (w' := wr.drew) rfl fun K hK => ?_
              simp only [List.getElem_toArray, List.getElem_cons_succ, List.getElem_cons_zero] at hK ⊢
              clear haf ho hiE
              go_simp
              exact hK
            | 10, hiE, ho, haf => exact absurd rfl hiE
            | n + 11, _, ho, _ => simp at ho
          · intro o ho aa hdf hsz hout hval hown
            obtain rfl := Option.some.inj ho
            have hat : aa.tmps = #[Value.slice a l.length c, Value.agg #[Value.int IntKind.i64 bp, Value.int IntKind.i64 fp, Value.int IntKind.u32 (sp : Int)], undef, Value.pointer (some { block := w.heap.size, off := 0 }), Value.bool false, Value.bool true, Value.slice (some { block := g, off := 0 }) l.length gc, Value.pointer (some { block := w2.heap.size, off := 0 }), Value.slice ax ps.length cx, Value.int IntKind.i64 (lvd (ldS l) bp fp sp), Value.slice am ps.length cm, Value.int IntKind.i64 (lvd (ldS l) bp fp sp), Value.slice az qs.length cz, Value.int IntKind.i64 (lvd (ldS l) bp fp sq), Value.slice au ps.length cu, Value.int IntKind.i64 (lvd (ldS l) bp fp sp), Value.slice ay ps.length cy, Value.int IntKind.i64 (lvd (ldS l) bp fp sp), Value.slice ap qs.length cp, Value.int IntKind.i64 (lvd (ldS l) bp fp sq), Value.bool true, Value.bool true, Value.bool true, Value.slice (some { block := w9.heap.size, off := 0 }) 4 4, Value.slice (some { block := w9.heap.size + 1, off := 0 }) 4 4, Value.int IntKind.i64 (i : Int), Value.int IntKind.i64 (k : Int), undef, undef, undef, undef, undef, undef, undef, undef, undef, undef, undef, undef, undef, undef, Value.bool true, Value.slice a l.length c, Value.slice (some { block := g, off := 0 }) l.length gc, Value.agg #[Value.int IntKind.i64 bp, Value.int IntKind.i64 fp, Value.int IntKind.u32 (sp : Int)], Value.pointer (some { block := w2.heap.size, off := 2 }), Value.int IntKind.u32 (sp : Int), Value.int IntKind.u32 (sq : Int), Value.pointer (some { block := w2.heap.size, off := 2 }), Value.tuple #[Value.slice ax ps.length cx, Value.int IntKind.i64 (lvd (ldS l) bp fp sp)], Value.slice (some { block := g, off := 0 }) l.length gc, Value.agg #[Value.int IntKind.i64 bp, Value.int IntKind.i64 fp, Value.int IntKind.u32 (sp : Int)], Value.tuple #[Value.slice ax ps.length cx, Value.int IntKind.i64 (lvd (ldS l) bp fp sp)], Value.slice ax ps.length cx, Value.int IntKind.i64 (lvd (ldS l) bp fp sp), Value.tuple #[Value.slice am ps.length cm, Value.int IntKind.i64 (lvd (ldS l) bp fp sp)], Value.slice (some { block := g, off := 0 }) l.length gc, Value.agg #[Value.int IntKind.i64 bp, Value.int IntKind.i64 fp, Value.int IntKind.u32 (sp : Int)], Value.tuple #[Value.slice am ps.length cm, Value.int IntKind.i64 (lvd (ldS l) bp fp sp)], Value.slice am ps.length cm, Value.int IntKind.i64 (lvd (ldS l) bp fp sp), Value.tuple #[Value.slice az qs.length cz, Value.int IntKind.i64 (lvd (ldS l) bp fp sq)], Value.slice (some { block := g, off := 0 }) l.length gc, Value.agg #[Value.int IntKind.i64 bp, Value.int IntKind.i64 fp, Value.int IntKind.u32 (sq : Int)], Value.tuple #[Value.slice az qs.length cz, Value.int IntKind.i64 (lvd (ldS l) bp fp sq)], Value.slice az qs.length cz, Value.int IntKind.i64 (lvd (ldS l) bp fp sq), Value.tuple #[Value.slice au ps.length cu, Value.int IntKind.i64 (lvd (ldS l) bp fp sp)], Value.slice (some { block := g, off := 0 }) l.length gc, Value.agg #[Value.int IntKind.i64 bp, Value.int IntKind.i64 fp, Value.int IntKind.u32 (sp : Int)], Value.tuple #[Value.slice au ps.length cu, Value.int IntKind.i64 (lvd (ldS l) bp fp sp)], Value.slice au ps.length cu, Value.int IntKind.i64 (lvd (ldS l) bp fp sp), Value.tuple #[Value.slice ay ps.length cy, Value.int IntKind.i64 (lvd (ldS l) bp fp sp)], Value.slice a l.length c, Value.agg #[Value.int IntKind.i64 bp, Value.int IntKind.i64 fp, Value.int IntKind.u32 (sp : Int)], Value.tuple #[Value.slice ay ps.length cy, Value.int IntKind.i64 (lvd (ldS l) bp fp sp)], Value.slice ay ps.length cy, Value.int IntKind.i64 (lvd (ldS l) bp fp sp), Value.tuple #[Value.slice ap qs.length cp, Value.int IntKind.i64 (lvd (ldS l) bp fp sq)], Value.slice a l.length c, Value.agg #[Value.int IntKind.i64 bp, Value.int IntKind.i64 fp, Value.int IntKind.u32 (sq : Int)], Value.tuple #[Value.slice ap qs.length cp, Value.int IntKind.i64 (lvd (ldS l) bp fp sq)], Value.slice ap qs.length cp, Value.int IntKind.i64 (lvd (ldS l) bp fp sq), Value.slice (some { block := g, off := 0 }) l.length gc, Value.slice a l.length c, Value.bool true, Value.slice ax ps.length cx, Value.slice ay ps.length cy, Value.bool true, Value.bool true, Value.slice au ps.length cu, Value.slice ay ps.length cy, Value.bool true, Value.bool true, Value.bool true, Value.slice am ps.length cm, Value.slice ay ps.length cy, Value.bool true, Value.bool true, Value.slice az qs.length cz, Value.slice ap qs.length cp, Value.bool true, Value.bool true, Value.bool false, Value.bool false, Value.bool true, Value.bool false, Value.bool false, Value.bool false, Value.bool true, Value.bool false, Value.bool false, Value.bool false, Value.bool true, Value.bool false, Value.bool false, Value.bool false, Value.int IntKind.i64 (lvd (ldS l) bp fp sp), Value.int IntKind.i64 (lvd (ldS l) bp fp sp), Value.bool false, Value.bool false, Value.bool false, Value.int IntKind.i64 (lvd (ldS l) bp fp sp), Value.int IntKind.i64 (lvd (ldS l) bp fp sp), Value.bool false, Value.bool false, Value.bool false, Value.int IntKind.i64 (lvd (ldS l) bp fp sq), Value.int IntKind.i64 (lvd (ldS l) bp fp sq), Value.bool false, Value.bool false, Value.agg #[Value.int IntKind.u64 0, Value.int IntKind.i64 0, Value.int IntKind.i64 0, Value.int IntKind.i64 0, Value.string { data := #[35] }], Value.agg #[Value.int IntKind.u64 0, Value.int IntKind.i64 0, Value.int IntKind.i64 0, Value.int IntKind.i64 0, Value.string { data := #[61] }], Value.agg #[Value.int IntKind.u64 0, Value.int IntKind.i64 0, Value.int IntKind.i64 0, Value.int IntKind.i64 0, Value.string { data := #[43] }], Value.agg #[Value.int IntKind.u64 0, Value.int IntKind.i64 0, Value.int IntKind.i64 0, Value.int IntKind.i64 0, Value.string { data := #[45] }], Value.slice (some { block := w9.heap.size, off := 0 }) 4 4, Value.slice ax ps.length cx, Value.slice az qs.length cz, Value.slice au ps.length cu, Value.slice am ps.length cm, Value.slice (some { block := w9.heap.size + 1, off := 0 }) 4 4, Value.int IntKind.i64 (i : Int), Value.bool true, u145, u146, Value.int IntKind.i64 (k : Int), Value.slice (some { block := w9.heap.size + 1, off := 0 }) 4 4, Value.int IntKind.i64 (i : Int), Value.pointer (some { block := w9.heap.size + 1, off := i }), Value.slice (some { block := g3, off := 0 }) (f i).length c3, Value.int IntKind.i64 ↑(f i).length, Value.bool true, u154, u155, Value.slice (some { block := w9.heap.size + 1, off := 0 }) 4 4, Value.int IntKind.i64 (i : Int), .pointer (some ⟨w9.heap.size + 1, i, none⟩), .slice (some ⟨g3, 0, none⟩) (f i).length c3, Value.int IntKind.i64 (k : Int), Value.slice (some { block := w9.heap.size, off := 0 }) 4 4, Value.int IntKind.i64 (i : Int), .pointer (some ⟨w9.heap.size, i * 5, none⟩), .agg #[.int .u64 0, .int .i64 0, .int .i64 0, .int .i64 0, .string (mkstr i)], .pointer (some ⟨g3, k * 5, none⟩), undef, undef, undef, undef, undef, undef, undef, undef, undef, undef, undef, undef, undef, undef, undef, undef, undef, undef, undef, undef, undef, undef, undef, undef, undef, undef, undef, undef, undef, undef, undef, undef, undef, undef, undef, undef, undef, undef, undef, undef, undef, undef, undef, undef, undef, undef, undef, undef, undef, undef, undef, undef, undef, undef, undef, undef, undef, undef, undef, undef, undef, undef, undef, undef, undef, undef, undef, undef, undef, undef, undef, undef, undef, undef, undef, undef, undef, undef, undef, undef, undef, undef, undef, undef, undef, undef, undef, undef, undef, undef, undef, undef, undef, undef, undef, undef, undef, undef, undef, undef] := by
              refine arr_one (hsz.trans rfl) fun kk hkk => ?_
              match kk, hkk with
              | 0, _ => exact hout 0 (notDst_spec (by kernel_rfl))
              | 1, _ => exact hout 1 (notDst_spec (by kernel_rfl))
              | 2, _ => exact hout 2 (notDst_spec (by kernel_rfl))
              | 3, _ => exact hout 3 (notDst_spec (by kernel_rfl))
              | 4, _ => exact hout 4 (notDst_spec (by kernel_rfl))
              | 5, _ => exact hout 5 (notDst_spec (by kernel_rfl))
              | 6, _ => exact hout 6 (notDst_spec (by kernel_rfl))
              | 7, _ => exact hout 7 (notDst_spec (by kernel_rfl))
              | 8, _ => exact hout 8 (notDst_spec (by kernel_rfl))
              | 9, _ => exact hout 9 (notDst_spec (by kernel_rfl))
              | 10, _ => exact hout 10 (notDst_spec (by kernel_rfl))
              | 11, _ => exact hout 11 (notDst_spec (by kernel_rfl))
              | 12, _ => exact hout 12 (notDst_spec (by kernel_rfl))
              | 13, _ => exact hout 13 (notDst_spec (by kernel_rfl))
              | 14, _ => exact hout 14 (notDst_spec (by kernel_rfl))
              | 15, _ => exact hout 15 (notDst_spec (by kernel_rfl))
              | 16, _ => exact hout 16 (notDst_spec (by kernel_rfl))
              | 17, _ => exact hout 17 (notDst_spec (by kernel_rfl))
              | 18, _ => exact hout 18 (notDst_spec (by kernel_rfl))
              | 19, _ => exact hout 19 (notDst_spec (by kernel_rfl))
              | 20, _ => exact hout 20 (notDst_spec (by kernel_rfl))
              | 21, _ => exact hout 21 (notDst_spec (by kernel_rfl))
              | 22, _ => exact hout 22 (notDst_spec (by kernel_rfl))
              | 23, _ => exact hout 23 (notDst_spec (by kernel_rfl))
              | 24, _ => exact hout 24 (notDst_spec (by kernel_rfl))
              | 25, _ => exact hout 25 (notDst_spec (by kernel_rfl))
              | 26, _ => exact hout 26 (notDst_spec (by kernel_rfl))
              | 27, _ => exact hout 27 (notDst_spec (by kernel_rfl))
              | 28, _ => exact hout 28 (notDst_spec (by kernel_rfl))
              | 29, _ => exact hout 29 (notDst_spec (by kernel_rfl))
              | 30, _ => exact hout 30 (notDst_spec (by kernel_rfl))
              | 31, _ => exact hout 31 (notDst_spec (by kernel_rfl))
              | 32, _ => exact hout 32 (notDst_spec (by kernel_rfl))
              | 33, _ => exact hout 33 (notDst_spec (by kernel_rfl))
              | 34, _ => exact hout 34 (notDst_spec (by kernel_rfl))
              | 35, _ => exact hout 35 (notDst_spec (by kernel_rfl))
              | 36, _ => exact hout 36 (notDst_spec (by kernel_rfl))
              | 37, _ => exact hout 37 (notDst_spec (by kernel_rfl))
              | 38, _ => exact hout 38 (notDst_spec (by kernel_rfl))
              | 39, _ => exact hout 39 (notDst_spec (by kernel_rfl))
              | 40, _ => exact hout 40 (notDst_spec (by kernel_rfl))
              | 41, _ => exact hout 41 (notDst_spec (by kernel_rfl))
              | 42, _ => exact hout 42 (notDst_spec (by kernel_rfl))
              | 43, _ => exact hout 43 (notDst_spec (by kernel_rfl))
              | 44, _ => exact hout 44 (notDst_spec (by kernel_rfl))
              | 45, _ => exact hout 45 (notDst_spec (by kernel_rfl))
              | 46, _ => exact hout 46 (notDst_spec (by kernel_rfl))
              | 47, _ => exact hout 47 (notDst_spec (by kernel_rfl))
              | 48, _ => exact hout 48 (notDst_spec (by kernel_rfl))
              | 49, _ => exact hout 49 (notDst_spec (by kernel_rfl))
              | 50, _ => exact hout 50 (notDst_spec (by kernel_rfl))
              | 51, _ => exact hout 51 (notDst_spec (by kernel_rfl))
              | 52, _ => exact hout 52 (notDst_spec (by kernel_rfl))
              | 53, _ => exact hout 53 (notDst_spec (by kernel_rfl))
              | 54, _ => exact hout 54 (notDst_spec (by kernel_rfl))
              | 55, _ => exact hout 55 (notDst_spec (by kernel_rfl))
              | 56, _ => exact hout 56 (notDst_spec (by kernel_rfl))
              | 57, _ => exact hout 57 (notDst_spec (by kernel_rfl))
              | 58, _ => exact hout 58 (notDst_spec (by kernel_rfl))
              | 59, _ => exact hout 59 (notDst_spec (by kernel_rfl))
              | 60, _ => exact hout 60 (notDst_spec (by kernel_rfl))
              | 61, _ => exact hout 61 (notDst_spec (by kernel_rfl))
              | 62, _ => exact hout 62 (notDst_spec (by kernel_rfl))
              | 63, _ => exact hout 63 (notDst_spec (by kernel_rfl))
              | 64, _ => exact hout 64 (notDst_spec (by kernel_rfl))
              | 65, _ => exact hout 65 (notDst_spec (by kernel_rfl))
              | 66, _ => exact hout 66 (notDst_spec (by kernel_rfl))
              | 67, _ => exact hout 67 (notDst_spec (by kernel_rfl))
              | 68, _ => exact hout 68 (notDst_spec (by kernel_rfl))
              | 69, _ => exact hout 69 (notDst_spec (by kernel_rfl))
              | 70, _ => exact hout 70 (notDst_spec (by kernel_rfl))
              | 71, _ => exact hout 71 (notDst_spec (by kernel_rfl))
              | 72, _ => exact hout 72 (notDst_spec (by kernel_rfl))
              | 73, _ => exact hout 73 (notDst_spec (by kernel_rfl))
              | 74, _ => exact hout 74 (notDst_spec (by kernel_rfl))
              | 75, _ => exact hout 75 (notDst_spec (by kernel_rfl))
              | 76, _ => exact hout 76 (notDst_spec (by kernel_rfl))
              | 77, _ => exact hout 77 (notDst_spec (by kernel_rfl))
              | 78, _ => exact hout 78 (notDst_spec (by kernel_rfl))
              | 79, _ => exact hout 79 (notDst_spec (by kernel_rfl))
              | 80, _ => exact hout 80 (notDst_spec (by kernel_rfl))
              | 81, _ => exact hout 81 (notDst_spec (by kernel_rfl))
              | 82, _ => exact hout 82 (notDst_spec (by kernel_rfl))
              | 83, _ => exact hout 83 (notDst_spec (by kernel_rfl))
              | 84, _ => exact hout 84 (notDst_spec (by kernel_rfl))
              | 85, _ => exact hout 85 (notDst_spec (by kernel_rfl))
              | 86, _ => exact hout 86 (notDst_spec (by kernel_rfl))
              | 87, _ => exact hout 87 (notDst_spec (by kernel_rfl))
              | 88, _ => exact hout 88 (notDst_spec (by kernel_rfl))
              | 89, _ => exact hout 89 (notDst_spec (by kernel_rfl))
              | 90, _ => exact hout 90 (notDst_spec (by kernel_rfl))
              | 91, _ => exact hout 91 (notDst_spec (by kernel_rfl))
              | 92, _ => exact hout 92 (notDst_spec (by kernel_rfl))
              | 93, _ => exact hout 93 (notDst_spec (by kernel_rfl))
              | 94, _ => exact hout 94 (notDst_spec (by kernel_rfl))
              | 95, _ => exact hout 95 (notDst_spec (by kernel_rfl))
              | 96, _ => exact hout 96 (notDst_spec (by kernel_rfl))
              | 97, _ => exact hout 97 (notDst_spec (by kernel_rfl))
              | 98, _ => exact hout 98 (notDst_spec (by kernel_rfl))
              | 99, _ => exact hout 99 (notDst_spec (by kernel_rfl))
              | 100, _ => exact hout 100 (notDst_spec (by kernel_rfl))
              | 101, _ => exact hout 101 (notDst_spec (by kernel_rfl))
              | 102, _ => exact hout 102 (notDst_spec (by kernel_rfl))
              | 103, _ => exact hout 103 (notDst_spec (by kernel_rfl))
              | 104, _ => exact hout 104 (notDst_spec (by kernel_rfl))
              | 105, _ => exact hout 105 (notDst_spec (by kernel_rfl))
              | 106, _ => exact hout 106 (notDst_spec (by kernel_rfl))
              | 107, _ => exact hout 107 (notDst_spec (by kernel_rfl))
              | 108, _ => exact hout 108 (notDst_spec (by kernel_rfl))
              | 109, _ => exact hout 109 (notDst_spec (by kernel_rfl))
              | 110, _ => exact hout 110 (notDst_spec (by kernel_rfl))
              | 111, _ => exact hout 111 (notDst_spec (by kernel_rfl))
              | 112, _ => exact hout 112 (notDst_spec (by kernel_rfl))
              | 113, _ => exact hout 113 (notDst_spec (by kernel_rfl))
              | 114, _ => exact hout 114 (notDst_spec (by kernel_rfl))
              | 115, _ => exact hout 115 (notDst_spec (by kernel_rfl))
              | 116, _ => exact hout 116 (notDst_spec (by kernel_rfl))
              | 117, _ => exact hout 117 (notDst_spec (by kernel_rfl))
              | 118, _ => exact hout 118 (notDst_spec (by kernel_rfl))
              | 119, _ => exact hout 119 (notDst_spec (by kernel_rfl))
              | 120, _ => exact hout 120 (notDst_spec (by kernel_rfl))
              | 121, _ => exact hout 121 (notDst_spec (by kernel_rfl))
              | 122, _ => exact hout 122 (notDst_spec (by kernel_rfl))
              | 123, _ => exact hout 123 (notDst_spec (by kernel_rfl))
              | 124, _ => exact hout 124 (notDst_spec (by kernel_rfl))
              | 125, _ => exact hout 125 (notDst_spec (by kernel_rfl))
              | 126, _ => exact hout 126 (notDst_spec (by kernel_rfl))
              | 127, _ => exact hout 127 (notDst_spec (by kernel_rfl))
              | 128, _ => exact hout 128 (notDst_spec (by kernel_rfl))
              | 129, _ => exact hout 129 (notDst_spec (by kernel_rfl))
              | 130, _ => exact hout 130 (notDst_spec (by kernel_rfl))
              | 131, _ => exact hout 131 (notDst_spec (by kernel_rfl))
              | 132, _ => exact hout 132 (notDst_spec (by kernel_rfl))
              | 133, _ => exact hout 133 (notDst_spec (by kernel_rfl))
              | 134, _ => exact hout 134 (notDst_spec (by kernel_rfl))
              | 135, _ => exact hout 135 (notDst_spec (by kernel_rfl))
              | 136, _ => exact hout 136 (notDst_spec (by kernel_rfl))
              | 137, _ => exact hout 137 (notDst_spec (by kernel_rfl))
              | 138, _ => exact hout 138 (notDst_spec (by kernel_rfl))
              | 139, _ => exact hout 139 (notDst_spec (by kernel_rfl))
              | 140, _ => exact hout 140 (notDst_spec (by kernel_rfl))
              | 141, _ => exact hout 141 (notDst_spec (by kernel_rfl))
              | 142, _ => exact hout 142 (notDst_spec (by kernel_rfl))
              | 143, _ => exact hout 143 (notDst_spec (by kernel_rfl))
              | 144, _ => exact hout 144 (notDst_spec (by kernel_rfl))
              | 145, _ => exact hout 145 (notDst_spec (by kernel_rfl))
              | 146, _ => exact hout 146 (notDst_spec (by kernel_rfl))
              | 147, _ => exact hout 147 (notDst_spec (by kernel_rfl))
              | 148, _ => exact hout 148 (notDst_spec (by kernel_rfl))
              | 149, _ => exact hout 149 (notDst_spec (by kernel_rfl))
              | 150, _ => exact hout 150 (notDst_spec (by kernel_rfl))
              | 151, _ => exact hout 151 (notDst_spec (by kernel_rfl))
              | 152, _ => exact hout 152 (notDst_spec (by kernel_rfl))
              | 153, _ => exact hout 153 (notDst_spec (by kernel_rfl))
              | 154, _ => exact hout 154 (notDst_spec (by kernel_rfl))
              | 155, _ => exact hout 155 (notDst_spec (by kernel_rfl))
              | 156, _ => exact hval 0 156 (by decide) (by decide) rfl
              | 157, _ => exact hval 1 157 (by decide) (by decide) rfl
              | 158, _ => exact hval 2 158 (by decide) (by decide) rfl
              | 159, _ => exact hval 3 159 (by decide) (by decide) rfl
              | 160, _ => exact hval 4 160 (by decide) (by decide) rfl
              | 161, _ => exact hval 5 161 (by decide) (by decide) rfl
              | 162, _ => exact hval 6 162 (by decide) (by decide) rfl
              | 163, _ => exact hval 7 163 (by decide) (by decide) rfl
              | 164, _ => exact hval 8 164 (by decide) (by decide) rfl
              | 165, _ => exact hval 9 165 (by decide) (by decide) rfl
              | 166, _ => exact hout 166 (notDst_spec (by kernel_rfl))
              | 167, _ => exact hout 167 (notDst_spec (by kernel_rfl))
              | 168, _ => exact hout 168 (notDst_spec (by kernel_rfl))
              | 169, _ => exact hout 169 (notDst_spec (by kernel_rfl))
              | 170, _ => exact hout 170 (notDst_spec (by kernel_rfl))
              | 171, _ => exact hout 171 (notDst_spec (by kernel_rfl))
              | 172, _ => exact hout 172 (notDst_spec (by kernel_rfl))
              | 173, _ => exact hout 173 (notDst_spec (by kernel_rfl))
              | 174, _ => exact hout 174 (notDst_spec (by kernel_rfl))
              | 175, _ => exact hout 175 (notDst_spec (by kernel_rfl))
              | 176, _ => exact hout 176 (notDst_spec (by kernel_rfl))
              | 177, _ => exact hout 177 (notDst_spec (by kernel_rfl))
              | 178, _ => exact hout 178 (notDst_spec (by kernel_rfl))
              | 179, _ => exact hout 179 (notDst_spec (by kernel_rfl))
              | 180, _ => exact hout 180 (notDst_spec (by kernel_rfl))
              | 181, _ => exact hout 181 (notDst_spec (by kernel_rfl))
              | 182, _ => exact hout 182 (notDst_spec (by kernel_rfl))
              | 183, _ => exact hout 183 (notDst_spec (by kernel_rfl))
              | 184, _ => exact hout 184 (notDst_spec (by kernel_rfl))
              | 185, _ => exact hout 185 (notDst_spec (by kernel_rfl))
              | 186, _ => exact hout 186 (notDst_spec (by kernel_rfl))
              | 187, _ => exact hout 187 (notDst_spec (by kernel_rfl))
              | 188, _ => exact hout 188 (notDst_spec (by kernel_rfl))
              | 189, _ => exact hout 189 (notDst_spec (by kernel_rfl))
              | 190, _ => exact hout 190 (notDst_spec (by kernel_rfl))
              | 191, _ => exact hout 191 (notDst_spec (by kernel_rfl))
              | 192, _ => exact hout 192 (notDst_spec (by kernel_rfl))
              | 193, _ => exact hout 193 (notDst_spec (by kernel_rfl))
              | 194, _ => exact hout 194 (notDst_spec (by kernel_rfl))
              | 195, _ => exact hout 195 (notDst_spec (by kernel_rfl))
              | 196, _ => exact hout 196 (notDst_spec (by kernel_rfl))
              | 197, _ => exact hout 197 (notDst_spec (by kernel_rfl))
              | 198, _ => exact hout 198 (notDst_spec (by kernel_rfl))
              | 199, _ => exact hout 199 (notDst_spec (by kernel_rfl))
              | 200, _ => exact hout 200 (notDst_spec (by kernel_rfl))
              | 201, _ => exact hout 201 (notDst_spec (by kernel_rfl))
              | 202, _ => exact hout 202 (notDst_spec (by kernel_rfl))
              | 203, _ => exact hout 203 (notDst_spec (by kernel_rfl))
              | 204, _ => exact hout 204 (notDst_spec (by kernel_rfl))
              | 205, _ => exact hout 205 (notDst_spec (by kernel_rfl))
              | 206, _ => exact hout 206 (notDst_spec (by kernel_rfl))
              | 207, _ => exact hout 207 (notDst_spec (by kernel_rfl))
              | 208, _ => exact hout 208 (notDst_spec (by kernel_rfl))
              | 209, _ => exact hout 209 (notDst_spec (by kernel_rfl))
              | 210, _ => exact hout 210 (notDst_spec (by kernel_rfl))
              | 211, _ => exact hout 211 (notDst_spec (by kernel_rfl))
              | 212, _ => exact hout 212 (notDst_spec (by kernel_rfl))
              | 213, _ => exact hout 213 (notDst_spec (by kernel_rfl))
              | 214, _ => exact hout 214 (notDst_spec (by kernel_rfl))
              | 215, _ => exact hout 215 (notDst_spec (by kernel_rfl))
              | 216, _ => exact hout 216 (notDst_spec (by kernel_rfl))
              | 217, _ => exact hout 217 (notDst_spec (by kernel_rfl))
              | 218, _ => exact hout 218 (notDst_spec (by kernel_rfl))
              | 219, _ => exact hout 219 (notDst_spec (by kernel_rfl))
              | 220, _ => exact hout 220 (notDst_spec (by kernel_rfl))
              | 221, _ => exact hout 221 (notDst_spec (by kernel_rfl))
              | 222, _ => exact hout 222 (notDst_spec (by kernel_rfl))
              | 223, _ => exact hout 223 (notDst_spec (by kernel_rfl))
              | 224, _ => exact hout 224 (notDst_spec (by kernel_rfl))
              | 225, _ => exact hout 225 (notDst_spec (by kernel_rfl))
              | 226, _ => exact hout 226 (notDst_spec (by kernel_rfl))
              | 227, _ => exact hout 227 (notDst_spec (by kernel_rfl))
              | 228, _ => exact hout 228 (notDst_spec (by kernel_rfl))
              | 229, _ => exact hout 229 (notDst_spec (by kernel_rfl))
              | 230, _ => exact hout 230 (notDst_spec (by kernel_rfl))
              | 231, _ => exact hout 231 (notDst_spec (by kernel_rfl))
              | 232, _ => exact hout 232 (notDst_spec (by kernel_rfl))
              | 233, _ => exact hout 233 (notDst_spec (by kernel_rfl))
              | 234, _ => exact hout 234 (notDst_spec (by kernel_rfl))
              | 235, _ => exact hout 235 (notDst_spec (by kernel_rfl))
              | 236, _ => exact hout 236 (notDst_spec (by kernel_rfl))
              | 237, _ => exact hout 237 (notDst_spec (by kernel_rfl))
              | 238, _ => exact hout 238 (notDst_spec (by kernel_rfl))
              | 239, _ => exact hout 239 (notDst_spec (by kernel_rfl))
              | 240, _ => exact hout 240 (notDst_spec (by kernel_rfl))
              | 241, _ => exact hout 241 (notDst_spec (by kernel_rfl))
              | 242, _ => exact hout 242 (notDst_spec (by kernel_rfl))
              | 243, _ => exact hout 243 (notDst_spec (by kernel_rfl))
              | 244, _ => exact hout 244 (notDst_spec (by kernel_rfl))
              | 245, _ => exact hout 245 (notDst_spec (by kernel_rfl))
              | 246, _ => exact hout 246 (notDst_spec (by kernel_rfl))
              | 247, _ => exact hout 247 (notDst_spec (by kernel_rfl))
              | 248, _ => exact hout 248 (notDst_spec (by kernel_rfl))
              | 249, _ => exact hout 249 (notDst_spec (by kernel_rfl))
              | 250, _ => exact hout 250 (notDst_spec (by kernel_rfl))
              | 251, _ => exact hout 251 (notDst_spec (by kernel_rfl))
              | 252, _ => exact hout 252 (notDst_spec (by kernel_rfl))
              | 253, _ => exact hout 253 (notDst_spec (by kernel_rfl))
              | 254, _ => exact hout 254 (notDst_spec (by kernel_rfl))
              | 255, _ => exact hout 255 (notDst_spec (by kernel_rfl))
              | 256, _ => exact hout 256 (notDst_spec (by kernel_rfl))
              | 257, _ => exact hout 257 (notDst_spec (by kernel_rfl))
              | 258, _ => exact hout 258 (notDst_spec (by kernel_rfl))
              | 259, _ => exact hout 259 (notDst_spec (by kernel_rfl))
              | 260, _ => exact hout 260 (notDst_spec (by kernel_rfl))
              | 261, _ => exact hout 261 (notDst_spec (by kernel_rfl))
              | 262, _ => exact hout 262 (notDst_spec (by kernel_rfl))
              | 263, _ => exact hout 263 (notDst_spec (by kernel_rfl))
              | 264, _ => exact hout 264 (notDst_spec (by kernel_rfl))
              | 265, _ => exact hout 265 (notDst_spec (by kernel_rfl))
              | n + 266, h => exact absurd h (by simp)
            obtain ⟨tt, dd⟩ := aa
            simp only at hat hdf
            subst hat hdf
            clear hsz hout hval hown ho
            simp only [List.getElem_toArray, List.getElem_cons_succ, List.getElem_cons_zero]
            go_simp
            have HWN : Hid (P1 WA w.heap.size w9.heap.size (w9.heap.size + 1) vs f (wr.setCells g3 (k * 5) (mkp i)).drew i (k + 1)) := (HI3.out.put (fun t ht => HMA.out t ht) (by rw [HVL.out]; exact HLT.out) HKL.out HV3.out).drew
            go_wp2_with fail
            exact ⟨⟨k + 1, HKL.out, by go_num, HWN.out⟩, by have := HKL.out; simp [intOf]; omega⟩
        · have hki : ¬ ((k : Nat) : Int) < ((f i).length : Int) := by omega
          have HNX : Hid (P1 WA w.heap.size w9.heap.size (w9.heap.size + 1) vs f wr (i + 1) 0) := HI3.out.next (by omega)
          clear hkl hk hg3 hv3
          go_wp2_with fail
          exact ⟨⟨i + 1, HLT.out, by go_num, HNX.out⟩, by have := HLT.out; simp [intOf]; omega⟩
    · have hii : ¬ ((i : Nat) : Int) < 4 := by omega
      have e4 : i = 4 := by omega
      have HP2 : Hid (P1 WA w.heap.size w9.heap.size (w9.heap.size + 1) vs f wr vs.length 0) := by rw [HVL.out, ← e4]; exact HI2.out
      clear hi hlt e4 HI2
      have HP2 := hd (HP2.out.two (by omega))
      go_wp2_with fail
      go_loopw [24, 27] (fun V x wr => ∃ (i : Nat) (a : Option Addr) (cc : Nat) (gs : List Value), i ≤ 4 ∧ x = .int .i64 (i : Int) ∧ V = .slice a (4 + i) cc ∧ P2 WA w.heap.size w9.heap.size vs f wr i gs V) (fun _ x _ => 4 - (intOf x).toNat)
      case atStart => exact ⟨0, _, _, _, by omega, rfl, rfl, HP2.out⟩
      case round =>
        obtain ⟨i, la, lc, gs, hi, rfl, rfl, hI⟩ := hrel
        have HI2 := hd hI
        clear hI HP2
        obtain ⟨WI, hWI⟩ : ∃ WI, WI = wr := ⟨_, rfl⟩
        subst hWI
        by_cases hlt : i < 4
        · have hii : ((i : Nat) : Int) < 4 := by omega
          have HLT : Hid (i + 1 ≤ 4) := hlt
          have hfi := hfl i
          have hcl := HI2.out.cells (i := i) (by rw [HVL.out]; exact hlt)
          obtain ⟨lg, a3, c3, hla, hv3, hle3, hcl, hcc⟩ := hcl
          subst hla
          have HV3 := hd hv3
          have HROW := hd (HI2.out.in2.rows.row i (by rw [HVL.out]; exact hlt))
          have HWS : Hid (w.heap.size ≤ WI.heap.size) := Nat.le_trans (by rw [hwa]; omega : w.heap.size ≤ WA.heap.size) HI2.out.in2.kept.1
          clear hi hv3
          go_wp2_with fail
          go_loopw [28, 29] (fun gv x wk => ∃ (k : Nat) (a4 : Option Addr) (c4 : Nat), k ≤ 64 ∧ x = .int .i64 (k : Int) ∧ gv = .slice a4 ((f i).length + k) c4 ∧ ExtR PT 5 WI w.heap.size (vs.getD i nil) (fug mkp f i) (mkp i) k gv wk) (fun _ x _ => 64 - (intOf x).toNat)
          case atStart => exact ⟨0, a3, c3, by omega, rfl, rfl, by have := ExtR.start HROW.out (mkp i); rw [HV3.out] at this ⊢; exact this⟩
          case round =>
            obtain ⟨k, a4, c4, hk, rfl, rfl, hX⟩ := hrel
            obtain ⟨wk, hwke⟩ : ∃ wk, wk = wr := ⟨_, rfl⟩
            subst hwke
            have HX := hd hX
            have hwk := hX.size
            have hrl : (fug mkp f i ++ List.replicate k (mkp i)).length = (f i).length + k := by rw [List.length_append, fug_len, List.length_replicate]
            have HRL := hd hrl
            have HJA := hd (fun o => hX.row.keepAll ((Below.refl wk.heap.size wk).alloc (Nat.le_refl _) o))
            have HMX := hd (HI2.out.marksX HMA.out (by rw [HVL.out]; exact hlt) hX)
            have HLX := hd (HI2.out.listX (by rw [HVL.out]; exact hlt) hX)
            clear hX hrl
            by_cases hk64 : k < 64
            · have hki : ((k : Nat) : Int) < 64 := by omega
              have m0 : wk.cell? ⟨w9.heap.size, i * 5, none⟩ = some (.int .u64 0) := HMX.out.at i _ 0 _ (mk4_at hlt) rfl
              have m1 : wk.cell? ⟨w9.heap.size, i * 5 + 1, none⟩ = some (.int .i64 0) := HMX.out.at i _ 1 _ (mk4_at hlt) rfl
              have m2 : wk.cell? ⟨w9.heap.size, i * 5 + 2, none⟩ = some (.int .i64 0) := HMX.out.at i _ 2 _ (mk4_at hlt) rfl
              have m3 : wk.cell? ⟨w9.heap.size, i * 5 + 3, none⟩ = some (.int .i64 0) := HMX.out.at i _ 3 _ (mk4_at hlt) rfl
              have m4 : wk.cell? ⟨w9.heap.size, i * 5 + 4, none⟩ = some (.string (mkstr i)) := HMX.out.at i _ 4 _ (mk4_at hlt) rfl
              go_wp2_with (at_builtin; refine wpList_append_keepR (E := PT) (sz := 5) (S := 60) Try.underlying60 info_ptr rfl (by decide) _ rfl _ _ rfl w.heap.size _ (fug mkp f i ++ List.replicate k (mkp i)) ⟨wk.heap.size, 0, none⟩ 1 (mkp i) rfl rfl (HJA.out _) rfl (fun j u hu => by rw [add_at, Nat.zero_add]; exact cell_lit _ _ (mkp i) j u _ rfl hu) (mkp_one i) ((f i).length + k + 1) (by rw [HRL.out]) (by omega) (by unfold maxLen; omega) (by have := HWS.out; simp; omega) ?_; intro a5 c5 w5 hP; have HP := hd hP; clear hP)
              exact ⟨⟨k + 1, a5, c5, by omega, by go_num, rfl, HX.out.step HROW.out HP.out⟩, by simp [intOf]; omega⟩
            · have hki : ¬ ((k : Nat) : Int) < 64 := by omega
              have e64 : k = 64 := by omega
              subst e64
              have HBS : Hid (w.heap.size ≤ wk.heap.size) := Nat.le_trans HWS.out hwk
              have HGL := hd HI2.out.in2.len
              clear hk hk64 HJA
              go_wp2_with (at_builtin; refine wpList_append_keep (E := PLS) (S := 65) (z := .slice none 0 0) (by_ := 24) Try.underlying65 info_ps rfl _ rfl _ _ rfl w.heap.size _ (vs ++ gs) ⟨wk.heap.size, 0, none⟩ 1 (.slice a4 ((f i).length + 64) c4) rfl rfl (HLX.out.below ((Below.refl wk.heap.size wk).alloc (Nat.le_refl _) _)) (World.cell?_alloc_new _ _ _ _) rfl (4 + i + 1) (by rw [List.length_append, HVL.out, HGL.out]) (by omega) (by unfold maxLen; omega) (by have := HBS.out; simp; omega) ?_; intro a6 c6 w6 hP; have HP := hd hP; clear hP)
              exact ⟨⟨i + 1, a6, c6, gs ++ [.slice a4 ((f i).length + 64) c4], HLT.out, by go_num, by rfl, HI2.out.step HMA.out (by rw [hwa]; omega) (by rw [HVL.out]; exact HLT.out) HX.out HP.out⟩, by have := HLT.out; simp [intOf]; omega⟩
        · have hii : ¬ ((i : Nat) : Int) < 4 := by omega
          have e4 : i = 4 := by omega
          have hk2 := HI2.out.in2.kept
          have hb2 := HI2.out.in2.below
          have HSI := hd (HSA.out.kept HI.out hk2 (hb2) (fun b hb => ⟨by rw [hwa]; rcases hb with rfl | rfl | rfl <;> omega, HNB.out b (by rcases hb with rfl | rfl | rfl <;> omega)⟩))
          have HYI := hd (jr_same HYA.out fun b hb => hk2.2 b (HYA.out.blk_lt b hb) (HYB.out b hb))
          have HSL : Hid (WA.heap.size ≤ WI.heap.size) := hk2.1
          subst e4
          have HP3 : Hid (P2 WA w.heap.size w9.heap.size vs f WI vs.length gs (.slice la 8 lc)) := by rw [HVL.out]; exact HI2.out
          have HGN := hd HI2.out.in2.len
          clear hi hlt hk2 hb2 HI2
          have q0 := HSI.out.pb.cell 0 _ rfl
          have q1 := HSI.out.pb.cell 1 _ rfl
          have q2 := HSI.out.pb.cell 2 _ rfl
          go_wp2_with fail
          refine Calls.mono (loadQ _ l bp fp sp WI (HSI.out.lent rfl)) ?_
          rintro e v1 ⟨⟨ar, cr, rfl, jr⟩, br⟩
          rw [HPS.out] at jr ⊢
          have HSJ := hd (HSI.out.keep br)
          have HYJ := hd (HYI.out.keepAll br)
          have HP4 := hd (HP3.out.three.keep br)
          have Jr := hd jr
          clear jr br HSI HYI HP3 q0 q1 q2
          go_wp2_with fail
          refine Calls.mono (hptrs_is _ _ _ _ ps v1 Jr.out HYJ.out) ?_
          rintro e v2 ⟨rfl, nr, rfl⟩
          have HSK : Hid (HS w w1.heap.size w2.heap.size a c g gc l l bp fp sp sq (v1.drewN nr)) := HSJ.out.keep (below_drewN (Below.refl _ _) _)
          have HP5 : Hid (P3 w.heap.size w9.heap.size vs gs f (v1.drewN nr) (.slice la 8 lc)) := HP4.out.keep (below_drewN (Below.refl _ _) _)
          obtain ⟨v3, hv3⟩ : ∃ v3, v3 = v1.drewN nr := ⟨_, rfl⟩
          rw [← hv3] at HSK HP5 ⊢
          clear hv3 HSJ HYJ HP4 Jr
          go_wp2_with fail
          go_loopw [33] (fun x wr => ∃ (k : Nat) (F : List Nat), k ≤ l.length ∧ x = .int .i64 (k : Int) ∧ F.length = l.length ∧ HS w w1.heap.size w2.heap.size a c g gc l F bp fp sp sq wr ∧ P3 w.heap.size w9.heap.size vs gs f wr (.slice la 8 lc)) (fun x _ => l.length - (intOf x).toNat)
          case atStart => exact ⟨0, l, by omega, rfl, rfl, HSK.out, HP5.out⟩
          case round =>
            obtain ⟨k, F, hk, rfl, hFl, hS, hP⟩ := hrel
            have HSF := hd hS
            have HPF := hd hP
            have HFL := hd hFl
            clear hS hP hFl HSK HP5
            by_cases hlt : k < l.length
            · have hki : ((k : Nat) : Int) < (l.length : Int) := by omega
              have HLT : Hid (k + 1 ≤ l.length) := hlt
              have hFb := (HSF.out.lent HFL.out).1
              have hcell := (show IsK .u8 256 wr (.slice (some ⟨g, 0, none⟩) l.length gc) F from HSF.out.lent HFL.out).row k (by rw [HFL.out]; exact hlt)
              rw [Nat.zero_add] at hcell
              have hfro := jk_frozen HSF.out.own k
              have hp : F.getD k 0 < 256 := by
                rw [List.getD_eq_getElem?_getD, List.getElem?_eq_getElem (by rw [HFL.out]; exact hlt)]
                exact hFb _ (List.getElem_mem _)
              have hgcl := gc_lim HSF.out.own
              rw [HFL.out] at hgcl
              have HN := hd (HSF.out.put HI.out (k := k) (y := F.getD k 0 ^^^ 1) (by omega) (by omega) (by rw [HFL.out]; exact hlt) (Nat.xor_lt_two_pow (n := 8) hp (by decide)))
              have HNP := hd (HPF.out.put (k := k) (u := .int .u8 ((F.getD k 0 ^^^ 1 : Nat) : Int)) HSF.out.own)
              have HX := hd (u8_xor_nat (F.getD k 0) 1 hp (by decide))
              have HNL : Hid ((F.set k (F.getD k 0 ^^^ 1)).length = l.length) := by have := HFL.out; show _ = _; rw [List.length_set]; exact this
              generalize F.getD k 0 = p at *
              clear hFb hk
              go_wp2_with fail
              have hx := HX.out
              rw [show ((1 : Nat) : Int) = 1 from rfl] at hx
              rw [hx]
              go_roundw
              case rel => exact ⟨k + 1, _, HLT.out, by go_num, HNL.out, HN.out, HNP.out⟩
              case measure => have := HLT.out; simp [intOf]; omega
            · have hki : ¬ ((k : Nat) : Int) < (l.length : Int) := by omega
              have q0 := HSF.out.pb.cell 0 _ rfl
              have q1 := HSF.out.pb.cell 1 _ rfl
              have q2 := HSF.out.pb.cell 2 _ rfl
              have HLF : Hid (F.length ≤ 16777216) := by have := HFL.out; show _ ≤ _; omega
              clear hk hlt
              go_wp2_with fail
              refine Calls.mono (loadQ _ F bp fp sp wr (HSF.out.lent HFL.out)) ?_
              rintro e v4 ⟨⟨ar4, cr4, rfl, jr4⟩, br4⟩
              have HSG := hd (HSF.out.keep br4)
              have HPG := hd (HPF.out.keep br4)
              have Jr := hd jr4
              have q0 := HSG.out.pb.cell 0 _ rfl
              have q1 := HSG.out.pb.cell 1 _ rfl
              have q2 := HSG.out.pb.cell 2 _ rfl
              clear jr4 br4
              go_wp2_with fail
              refine Calls.mono (rloadQ _ F bp fp sp v4 (HSG.out.lent HFL.out) HLF.out) ?_
              rintro e v5 ⟨⟨ar5, cr5, rfl, jr5⟩, br5⟩
              have HSH := hd (HSG.out.keep br5)
              have HPH := hd (HPG.out.keep br5)
              have Jr := hd (Jr.out.keepAll br5)
              have Js := hd jr5
              clear jr5 br5
              go_wp2_with fail
              refine Calls.mono (hptrs_is _ _ _ _ (lps (ldS F) bp fp sp) v5 Jr.out Js.out) ?_
              rintro e v6 ⟨rfl, nr6, rfl⟩
              have HBE : Hid (Below w.heap.size w (v5.drewN nr6)) := (HSH.out.keep (below_drewN (Below.refl _ _) _)).below
              have HPI : Hid (P3 w.heap.size w9.heap.size vs gs f (v5.drewN nr6) (.slice la 8 lc)) := HPH.out.keep (below_drewN (Below.refl _ _) _)
              obtain ⟨v7, hv7⟩ : ∃ v7, v7 = v5.drewN nr6 := ⟨_, rfl⟩
              rw [← hv7] at HBE HPI ⊢
              clear hv7 HSH HPH HSG HPG Jr Js HSF HPF q0 q1 q2
              go_wp2_with fail
              obtain ⟨lg, hla, hl8, hlm, hall⟩ := HPI.out.cells HVL.out HGN.out hfl
              subst hla
              have HALL := hd hall
              have HMK := hd (fun t (ht : t < 4) => HPI.out.mark ht)
              unfold maxLen at hlm
              clear hall HPI
              go_loopw [32, 39] (fun ok x wr => ∃ i n : Nat, i ≤ 8 ∧ x = .int .i64 (i : Int) ∧ ok = .bool true ∧ wr = v7.drewN n) (fun _ x _ => 8 - (intOf x).toNat)
              case atStart => exact ⟨0, 0, by omega, rfl, rfl, rfl⟩
              case round =>
                obtain ⟨i, n, hi, rfl, rfl, rfl⟩ := hrel
                by_cases hlt : i < 8
                · have hii : ((i : Nat) : Int) < 8 := by omega
                  have HLT : Hid (i + 1 ≤ 8) := hlt
                  obtain ⟨ra, rn, rc, hc0, hrc, hrn, hrow⟩ := HALL.out i hlt
                  obtain ⟨m0, m1, m2, m3, m4⟩ := HMK.out (i % 4) (by omega)
                  have HROW := hd hrow
                  have HM4 : Hid (((i : Nat) : Int) % 4 = ((i % 4 : Nat) : Int)) := by show _ = _; omega
                  have ht4 : i % 4 < 4 := by omega
                  have heq := eq_mk (i % 4)
                  obtain ⟨t, ht⟩ : ∃ t, t = i % 4 := ⟨_, rfl⟩
                  rw [← ht] at m0 m1 m2 m3 m4 HM4 heq ht4 HROW
                  clear hrow hi ht
                  go_wp2_with fail
                  go_loopw [32, 40] (fun ok x wr => ∃ k n : Nat, k ≤ rn ∧ x = .int .i64 (k : Int) ∧ ok = .bool true ∧ wr = v7.drewN n) (fun _ x _ => rn - (intOf x).toNat)
                  case atStart => exact ⟨0, n, by omega, rfl, rfl, rfl⟩
                  case round =>
                    obtain ⟨k, n2, hk, rfl, rfl, rfl⟩ := hrel
                    by_cases hkl : k < rn
                    · have hki : ((k : Nat) : Int) < (rn : Int) := by omega
                      have HKL : Hid (k + 1 ≤ rn) := hkl
                      obtain ⟨g3, hra, d0, d1, d2, d3, d4⟩ := HROW.out k hkl
                      subst hra
                      clear hk
                      have hmod := HM4.out
                      have hmodt : ((i : Nat) : Int).tmod 4 = (t : Int) := by rw [← hmod]; exact Int.tmod_eq_emod_of_nonneg (by omega)
                      have ht4i : (t : Int) < 4 := by omega
                      go_wp2_with fail
                      go_quiet (fail)
                      go_wp2_with fail
                      exact ⟨⟨k + 1, _, HKL.out, by go_num, rfl, rfl⟩, by have := HKL.out; simp [intOf]; omega⟩
                    · have hki : ¬ ((k : Nat) : Int) < (rn : Int) := by omega
                      clear hk hkl
                      go_wp2_with fail
                      exact ⟨⟨i + 1, _, HLT.out, by go_num, rfl, rfl⟩, by have := HLT.out; simp [intOf]; omega⟩
                · have hii : ¬ ((i : Nat) : Int) < 8 := by omega
                  clear hi hlt
                  go_wp2_with fail
                  go_ret
                  exact ⟨rfl, below_drewN HBE.out _⟩
end Os
end Go.Proofs.Ytifjjoobbegpoaa
