/-
  HINT FILES, PLAINLY: bytes that are frames from end to end ('Cl'); a segment's hint file ('hof'); what is read of one ('ldS').
  A REGION THAT DRAWS ITS ORDER, BY AN INVARIANT: whatever the order in which its operations come up, what each has yielded is told by a property that later operations leave standing; so each operation is looked at once, not once for each order. No condition beyond those that each theorem bears.
-/
import Derived.Test.YtmcipkogkibkaaaMav
import Derived.WalkKit
namespace Go.Proofs.Ytmcipkogkibkaaa
namespace Vt
/-- the lengths of some frames together -/
def sml (L : List Lc) : Nat := (L.map fun x => x.2.1).sum
theorem sml_nil : sml [] = 0 := rfl
theorem sml_cons (x : Lc) (L : List Lc) : sml (x :: L) = x.2.1 + sml L := by simp [sml]
theorem sml_app (L M : List Lc) : sml (L ++ M) = sml L + sml M := by simp [sml]
theorem sml_le {l : List Nat} (hb : Byt l) : ∀ n, l.length ≤ n → ∀ at_, sml (locs at_ l) ≤ l.length := by
  intro n
  induction n generalizing l with
  | zero =>
    intro h at_
    obtain rfl : l = [] := List.length_eq_zero_iff.1 (by omega)
    simp [locs, sml]
  | succ n ih =>
    intro h at_
    by_cases hne : l = []
    · subst hne; simp [locs, sml]
    · have hlen : 1 ≤ l.length := by cases l with
        | nil => exact absurd rfl hne
        | cons x r => simp
      by_cases he : (dcd l).2.2 = 0
      · obtain ⟨_, _, e3, e4, _⟩ := en_dcd hb he
        have hp := en_pos (dcd l).1
        rw [locs_ok hb at_ he, sml_cons]
        have := ih (l := l.drop (dcd l).2.1) (byt_drop hb _) (by rw [List.length_drop]; omega) (at_ + (dcd l).2.1)
        rw [List.length_drop] at this
        simp only
        omega
      · rw [locs_err he]
        have := ih (l := l.drop 1) (byt_drop hb _) (by rw [List.length_drop]; omega) (at_ + 1)
        rw [List.length_drop] at this
        omega
/-- frames from end to end -/
def Cl (l : List Nat) : Prop := sml (locs 0 l) = l.length
theorem sml_shift (l : List Nat) (q at_ : Nat) : sml (locs (q + at_) l) = sml (locs at_ l) := by
  rw [locs_shift]; simp [sml]; rfl
/-- a gap: not clean -/
theorem gap {l : List Nat} (hb : Byt l) {pre : List Lc} {at_ : Nat} (hat : at_ < l.length) (hs : sml pre = at_) (hl : locs 0 l = pre ++ locs at_ (l.drop at_)) (he : (dcd (l.drop at_)).2.2 ≠ 0) : ¬ Cl l := by
  intro h
  unfold Cl at h
  rw [hl, sml_app, locs_err he, List.drop_drop, hs] at h
  have := sml_le (byt_drop hb (at_ + 1)) _ (Nat.le_refl _) (at_ + 1)
  rw [List.length_drop] at this
  omega
/-- clean bytes are their frames written -/
theorem cl_flat {l : List Nat} (hb : Byt l) : ∀ n, l.length ≤ n → ∀ at_, sml (locs at_ l) = l.length → ((locs at_ l).map fun x => en x.2.2).flatten = l := by
  intro n
  induction n generalizing l with
  | zero =>
    intro h at_ _
    obtain rfl : l = [] := List.length_eq_zero_iff.1 (by omega)
    simp [locs]
  | succ n ih =>
    intro h at_ hs
    by_cases hne : l = []
    · subst hne; simp [locs]
    · have hlen : 1 ≤ l.length := by cases l with
        | nil => exact absurd rfl hne
        | cons x r => simp
      by_cases he : (dcd l).2.2 = 0
      · obtain ⟨_, _, e3, e4, e5⟩ := en_dcd hb he
        have hp := en_pos (dcd l).1
        rw [locs_ok hb at_ he] at hs ⊢
        rw [sml_cons] at hs
        simp only at hs
        have := ih (l := l.drop (dcd l).2.1) (byt_drop hb _) (by rw [List.length_drop]; omega) (at_ + (dcd l).2.1) (by rw [List.length_drop]; omega)
        rw [List.map_cons, List.flatten_cons, this, ← e5, List.take_append_drop]
      · rw [locs_err he] at hs
        have := sml_le (byt_drop hb 1) _ (Nat.le_refl _) (at_ + 1)
        rw [List.length_drop] at this
        omega
theorem Cl.flat {l : List Nat} (hb : Byt l) (h : Cl l) : ((locs 0 l).map fun x => en x.2.2).flatten = l := cl_flat hb _ (Nat.le_refl _) 0 h
/-- frames that may be, with their places from at_ on -/
def lay (at_ : Nat) : List Fr → List Lc
  | [] => []
  | f :: r => (at_, (en f).length, f) :: lay (at_ + (en f).length) r
theorem lay_snd (fs : List Fr) : ∀ at_, (lay at_ fs).map (fun x => x.2.2) = fs := by
  induction fs with
  | nil => intro at_; rfl
  | cons f r ih => intro at_; simp [lay, ih]
theorem lay_app (fs gs : List Fr) : ∀ at_, lay at_ (fs ++ gs) = lay at_ fs ++ lay (at_ + (fs.map en).flatten.length) gs := by
  induction fs with
  | nil => intro at_; simp [lay]
  | cons f r ih => intro at_; simp only [List.cons_append, lay, ih]; simp [Nat.add_assoc]
theorem lay_sml (fs : List Fr) : ∀ at_, sml (lay at_ fs) = (fs.map en).flatten.length := by
  induction fs with
  | nil => intro at_; rfl
  | cons f r ih => intro at_; rw [lay, sml_cons, ih]; simp
theorem en_bytH {f : Fr} (h : rf f = 0) : Byt (en f) := by
  rw [en_eq]
  intro x hx
  rcases List.mem_cons.1 hx with rfl | hx
  · decide
  · exact byt_app (dg_byt _ _) (byt_app (wr_byt (bd_byt h)) (dg_byt _ _)) x hx
/-- what is written from end to end is found so -/
theorem locs_lay {fs : List Fr} (h : ∀ f ∈ fs, f.Wf ∧ rf f = 0) : Byt (fs.map en).flatten → ∀ at_, locs at_ (fs.map en).flatten = lay at_ fs := by
  induction fs with
  | nil => intro _ at_; rfl
  | cons f r ih =>
    intro hb at_
    rw [List.map_cons, List.flatten_cons] at hb ⊢
    rw [locs_en (h f List.mem_cons_self).1 (h f List.mem_cons_self).2 hb, lay, ih (fun g hg => h g (List.mem_cons_of_mem _ hg)) (fun y hy => hb y (List.mem_append_right _ hy))]
theorem lay_cl {fs : List Fr} (h : ∀ f ∈ fs, f.Wf ∧ rf f = 0) (hb : Byt (fs.map en).flatten) : Cl (fs.map en).flatten := by
  unfold Cl; rw [locs_lay h hb, lay_sml]
/-- the Hint frame of a pointer -/
def hfr (p : Ptr) : Fr := ⟨3, zr, p, ze⟩
/-- the Foot frame of an ending -/
def ffr (e : Edg) : Fr := ⟨4, zr, zp, e⟩
/-- the pointer to what stands at a place -/
def pto (x : Lc) : Ptr := ptr x.2.2 (x.1 : Int) (x.2.1 : Int)
/-- the ending for clean bytes -/
noncomputable def edg (l : List Nat) : Edg := ⟨((locs 0 l).length : Int), (l.length : Int), ((locs 0 l).length : Int), Crc.go 0 l⟩
/-- the hint frames of some records -/
def hbs (L : List Lc) : List Nat := (L.map fun x => en (hfr (pto x))).flatten
theorem hbs_snoc (L : List Lc) (x : Lc) : hbs (L ++ [x]) = hbs L ++ en (hfr (pto x)) := by simp [hbs]
/-- may a segment have a hint file? -/
def May (l : List Nat) : Prop := l.length ≤ 4194304 ∧ Cl l ∧ ∀ x ∈ locs 0 l, isRec x.2.2 = true
/-- the hint file of a segment that may have one -/
noncomputable def hof (l : List Nat) : List Nat := hbs (locs 0 l) ++ en (ffr (edg l))
theorem isRec_kind {f : Fr} (h : isRec f = true) : f.kind = 1 ∨ f.kind = 2 := by
  unfold isRec at h
  rw [Bool.or_eq_true, decide_eq_true_eq, decide_eq_true_eq] at h
  exact h
theorem hfr_ok {l : List Nat} (hb : Byt l) (hl : l.length ≤ 4194304) {x : Lc} (hx : x ∈ locs 0 l) (hr : isRec x.2.2 = true) : rf (hfr (pto x)) = 0 ∧ (hfr (pto x)).Wf := by
  obtain ⟨h1, h2, h3, h4, h5, h6⟩ := locs_mem hb 0 x hx
  have hk := isRec_kind hr
  unfold rf at h5
  rw [if_pos hk] at h5
  obtain ⟨e1, e2, e3, e4, e5⟩ := rfR_ok h5
  constructor
  · unfold rf rfP hfr pto ptr
    simp only
    rw [if_neg (by omega), if_pos trivial, if_neg (by omega), if_neg e2, if_neg (by exact fun h => h e3), if_neg (by unfold onD; omega), if_neg (by simp)]
  · unfold Fr.Wf hfr pto ptr zr ze
    exact ⟨by simp, h6.1, by simp⟩
theorem ffr_ok {l : List Nat} (hb : Byt l) (hl : l.length ≤ 4194304) : rf (ffr (edg l)) = 0 ∧ (ffr (edg l)).Wf := by
  have hn := locs_len hb _ (Nat.le_refl _) 0
  constructor
  · unfold rf rfE ffr edg
    simp only
    rw [if_neg (by omega), if_neg (by omega), if_pos trivial, if_neg (by unfold onD; omega), if_neg (by simp)]
  · unfold Fr.Wf ffr edg zr zp
    exact ⟨by simp, by simp, Crc.go_lt 0 l⟩
/-- what is read of a hint file so far -/
structure St where
  ps : List Ptr
  e : Edg
  ended : Bool
  next : Int
def st0 : St := ⟨[], ze, false, 0⟩
/-- one more frame: none: refused -/
def stp (s : St) (f : Fr) : Option St :=
  if s.ended = true then none else if f.kind = 4 then some ⟨s.ps, f.e, true, s.next⟩
  else if f.kind = 3 ∧ f.p.at_ = s.next then some ⟨s.ps ++ [f.p], s.e, s.ended, s.next + f.p.len⟩ else none
def sts (s : Option St) (L : List Lc) : Option St := L.foldl (fun s x => s.bind fun s => stp s x.2.2) s
theorem sts_snoc (s : Option St) (L : List Lc) (x : Lc) : sts s (L ++ [x]) = (sts s L).bind fun s => stp s x.2.2 := by unfold sts; rw [List.foldl_append]; rfl
theorem sts_none (L : List Lc) : sts none L = none := by
  induction L with
  | nil => rfl
  | cons x r ih => exact ih
theorem sts_pre {s : Option St} {L M : List Lc} (h : sts s L = none) (hp : L <+: M) : sts s M = none := by
  obtain ⟨t, rfl⟩ := hp
  unfold sts at h ⊢
  rw [List.foldl_append, h]
  exact sts_none t
/-- what the form of a hint file tells, if it is one -/
def good (s : St) : Prop := s.ended = true ∧ s.e.count = (s.ps.length : Int) ∧ s.e.frames = (s.ps.length : Int) ∧ s.e.bytes = s.next
open Classical in
noncomputable def ldS (l : List Nat) : Option St := if Cl l then (sts (some st0) (locs 0 l)).bind fun s => if good s then some s else none else none
end Vt
end Go.Proofs.Ytmcipkogkibkaaa
namespace Go.Proofs.Ytmcipkogkibkaaa
open Go Go.RowKit

theorem ready_spec {md : Region.Mode} {ops : Array Oper} {L : Array Bool} {i : Nat} (h : i ∈ Region.ready md ops L) :
    ∃ o, ops[i]? = some o ∧ i < ops.size ∧ L.getD i true = false ∧ ∀ e ∈ o.after, Region.binds md e = true → L.getD e.on false = true := by
  unfold Region.ready at h
  obtain ⟨h1, h2⟩ := List.mem_filter.1 h
  have hi : i < ops.size := by simpa using h1
  have ho : ops[i]? = some ops[i] := Array.getElem?_eq_getElem hi
  rw [ho] at h2
  simp only [Option.map_some, Option.getD_some, Bool.and_eq_true, Bool.not_eq_eq_eq_not, Bool.not_true, Array.all_eq_true'] at h2
  refine ⟨ops[i], ho, hi, h2.1, fun e he hb => ?_⟩
  have := h2.2 e he
  rw [hb] at this
  simpa using this
theorem ready_nil {md : Region.Mode} {ops : Array Oper} {L : Array Bool} (h : ∀ i, i < ops.size → L.getD i true = true) : Region.ready md ops L = [] := by
  unfold Region.ready
  rw [List.filter_eq_nil_iff]
  intro i hi
  rw [h i (by simpa using hi)]
  simp
/-- how many are not yet listed -/
def left (L : Array Bool) : Nat := L.toList.countP (fun b => !b)
theorem left_set {L : Array Bool} {i : Nat} (h : L.getD i true = false) : left (L.setIfInBounds i true) + 1 = left L := by
  have hi : i < L.size := by
    rcases Nat.lt_or_ge i L.size with h' | h'
    · exact h'
    · rw [Array.getD_eq_getD_getElem?, Array.getElem?_eq_none h'] at h; simp at h
  have hv : L.toList[i]'(by simpa using hi) = false := by
    rw [Array.getD_eq_getD_getElem?, Array.getElem?_eq_getElem hi] at h
    simpa using h
  unfold left
  rw [Array.toList_setIfInBounds, List.countP_set (by simpa using hi), hv]
  have hpos : 0 < L.toList.countP (fun b => !b) := List.countP_pos_iff.2 ⟨false, by rw [← hv]; exact List.getElem_mem _, rfl⟩
  rw [if_pos (by decide), if_neg (by decide)]
  omega
theorem left_zero {L : Array Bool} (h : left L = 0) (i : Nat) (hi : i < L.size) : L.getD i true = true := by
  unfold left at h
  rw [List.countP_eq_zero] at h
  have := h L[i] (by simp)
  rw [Array.getD_eq_getD_getElem?, Array.getElem?_eq_getElem hi]
  simpa using this
theorem wpAny_inv {P : Program} {md : Region.Mode} {ops : Array Oper} {Q : Exit → Act → World → Prop} (I : Array Bool → Act → World → Prop)
    (hsz : ∀ L a w, I L a w → L.size = ops.size)
    (hstep : ∀ L a w i, I L a w → i ∈ Region.ready md ops L → wpOp P ops Q i (fun a' w' => I (L.setIfInBounds i true) a' w') a w)
    (hdone : ∀ L a w, I L a w → Region.ready md ops L = [] → Q .normal a w) :
    ∀ fuel L a w, I L a w → left L ≤ fuel → wpAny P md ops Q fuel L a w := by
  intro fuel
  induction fuel with
  | zero =>
    intro L a w h hl
    have hr : Region.ready md ops L = [] := ready_nil fun i hi => left_zero (by omega) i (by rw [hsz L a w h]; exact hi)
    exact ⟨hr, hdone L a w h hr⟩
  | succ fuel ih =>
    intro L a w h hl
    refine ⟨fun hr => hdone L a w h hr, fun i hi => ?_⟩
    obtain ⟨o, ho, hlt, hL, _⟩ := ready_spec hi
    have := left_set hL
    exact wpOp_mono (fun a' w' h' => ih _ a' w' h' (by omega)) (hstep L a w i h hi)

/-- each operation's forerunners stand ahead of it -/
def aftersAhead (ops : Array Oper) : Bool := (List.range ops.size).all fun i => ((ops[i]?).map fun o => o.after.all fun e => decide (e.on < i)).getD true
theorem all_listed {md : Region.Mode} {ops : Array Oper} {L : Array Bool} (h : aftersAhead ops = true) (hs : L.size = ops.size) (hr : Region.ready md ops L = []) : ∀ i, i < ops.size → L.getD i false = true := by
  intro i
  induction i using Nat.strongRecOn with
  | _ i ih =>
    intro hi
    refine Classical.byContradiction fun hn => ?_
    have hL : L.getD i true = false := by
      rw [Array.getD_eq_getD_getElem?, Array.getElem?_eq_getElem (by omega)] at hn ⊢
      simpa using hn
    have ho : ops[i]? = some ops[i] := Array.getElem?_eq_getElem hi
    have hmem : i ∈ Region.ready md ops L := by
      unfold Region.ready
      refine List.mem_filter.2 ⟨by simpa using hi, ?_⟩
      rw [hL, ho]
      simp only [Option.map_some, Option.getD_some, Bool.not_false, Bool.true_and, Array.all_eq_true']
      intro e he
      have hlt : e.on < i := by
        unfold aftersAhead at h
        have := List.all_eq_true.1 h i (by simpa using hi)
        rw [ho] at this
        simp only [Option.map_some, Option.getD_some, Array.all_eq_true', decide_eq_true_eq] at this
        exact this e he
      rw [ih e.on hlt (by omega)]
      simp
    rw [hr] at hmem
    simp at hmem
/-- where an operation writes -/
def dstOf (ops : Array Oper) (i : Nat) : Option Nat := (ops[i]?).bind (·.dst)
def dstsApart (ops : Array Oper) (n : Nat) : Bool :=
  (List.range ops.size).all fun i => match dstOf ops i with
    | none => false
    | some d => decide (d < n) && (List.range ops.size).all fun j => decide (i = j) || !(dstOf ops j == some d)
theorem dsts_spec {ops : Array Oper} {n : Nat} (h : dstsApart ops n = true) {i : Nat} (hi : i < ops.size) : ∃ d, dstOf ops i = some d ∧ d < n ∧ ∀ j, j < ops.size → j ≠ i → dstOf ops j ≠ some d := by
  unfold dstsApart at h
  have := List.all_eq_true.1 h i (by simpa using hi)
  split at this
  · simp at this
  · rename_i d hd
    simp only [Bool.and_eq_true, decide_eq_true_eq, List.all_eq_true, List.mem_range, Bool.or_eq_true, Bool.not_eq_eq_eq_not, Bool.not_true, beq_eq_false_iff_ne] at this
    refine ⟨d, hd, this.1, fun j hj hne => ?_⟩
    rcases this.2 j hj with h' | h'
    · exact absurd h'.symm hne
    · exact h'
def notDst (ops : Array Oper) (k : Nat) : Bool := (List.range ops.size).all fun j => !(dstOf ops j == some k)
theorem notDst_spec {ops : Array Oper} {k : Nat} (h : notDst ops k = true) : ∀ j, j < ops.size → dstOf ops j ≠ some k := by
  intro j hj
  have := List.all_eq_true.1 h j (by simpa using hj)
  simpa using this
theorem yielded_of {ops : Array Oper} {a : Act} {j d : Nat} {b : Bool} (hd : dstOf ops j = some d) (hs : d < a.tmps.size) (hv : a.tmps.getD d undef = .bool b) : yielded ops a.tmps j = some b := by
  unfold yielded
  unfold dstOf at hd
  rw [hd, Option.bind_some]
  rw [Array.getD_eq_getD_getElem?, Array.getElem?_eq_getElem hs] at hv
  rw [Array.getElem?_eq_getElem hs]
  simp only [Option.getD_some] at hv
  rw [hv]
/-- the slot that operation i has filled -/
def slotOf (ops : Array Oper) (a : Act) (i : Nat) : Value := a.tmps.getD ((dstOf ops i).getD 0) undef
theorem getD_put (a : Act) (d k : Nat) (v : Value) (hd : d < a.tmps.size) : (a.put (some d) v).tmps.getD k undef = if k = d then v else a.tmps.getD k undef := by
  simp only [Act.put, Array.getD_eq_getD_getElem?, Array.getElem?_setIfInBounds]
  by_cases h : k = d
  · subst h; simp [hd]
  · rw [if_neg (by omega), if_neg h]

theorem getq {a : Act} {k : Nat} {v : Value} (h : a.tmps.getD k undef = v) : a.tmps[k]?.getD undef = v := by rwa [Array.getD_eq_getD_getElem?] at h
/-- an operation that is wanted and yields something good -/
theorem step_good {P : Program} {o : Oper} {a : Act} {w : World} {Q : Exit → Act → World → Prop} {ops : Array Oper} (good : Value → World → Prop) (hw : Region.wanted o (yielded ops a.tmps) = true)
    (h : ∀ K : Act → World → Prop, (∀ v w', good v w' → K (a.put o.dst v) w') → o.wp P a w K Q) :
    if Region.wanted o (yielded ops a.tmps) then o.wp P a w (fun a' w' => ∃ v, a' = a.put o.dst v ∧ good v w') Q else False := by
  rw [if_pos hw]
  exact h _ (fun v w' hg => ⟨v, rfl, hg⟩)
theorem wanted_none {o : Oper} {f : Nat → Option Bool} (h : o.guard = none) : Region.wanted o f = true := by
  unfold Region.wanted; rw [h]
theorem wanted_some {o : Oper} {f : Nat → Option Bool} {j : Nat} {b : Bool} (h : o.guard = some (j, b)) (hf : f j = some b) : Region.wanted o f = true := by
  unfold Region.wanted; rw [h]; simp [hf]
/-- THE REGION BY AN INVARIANT. 'G i v w': what operation i has yielded, v, is good in the world w; it stays so while the world grows ('W', 'stable'); each operation, its forerunners' yields being good, yields something good ('step'). -/
theorem region_inv {P : Program} {id : Nat} {ops : Array Oper} {Q : Exit → Act → World → Prop} {a0 : Act} {w0 : World} (G : Nat → Value → World → Prop) (W : World → Prop)
    (hm : P.follows .mixedOrders = true) (hd : dstsApart ops a0.tmps.size = true) (hah : aftersAhead ops = true) (hW0 : W w0.drew)
    (stable : ∀ i v w w', W w → W w' → Below w.heap.size w w' → G i v w → G i v w')
    (step : ∀ i o, ops[i]? = some o → ∀ a w, W w → a.defers = a0.defers → a.tmps.size = a0.tmps.size →
      (∀ k, (∀ j, j < ops.size → dstOf ops j ≠ some k) → a.tmps.getD k undef = a0.tmps.getD k undef) →
      (∀ e ∈ o.after, Region.binds .any e = true → G e.on (slotOf ops a e.on) w) →
      (if Region.wanted o (yielded ops a.tmps) then o.wp P a w (fun a' w' => ∃ v, a' = a.put o.dst v ∧ Below w.heap.size w w' ∧ W w' ∧ G i v w') Q else False))
    (done : ∀ a w, W w → a.defers = a0.defers → a.tmps.size = a0.tmps.size →
      (∀ k, (∀ j, j < ops.size → dstOf ops j ≠ some k) → a.tmps.getD k undef = a0.tmps.getD k undef) →
      (∀ i, i < ops.size → G i (slotOf ops a i) w) → Q .normal a w) :
    (Code.region id ops true).wp P Q a0 w0 := by
  refine wp_region_any hm ?_
  refine wpAny_inv (fun L a w => L.size = ops.size ∧ W w ∧ a.defers = a0.defers ∧ a.tmps.size = a0.tmps.size ∧
      (∀ k, (∀ j, j < ops.size → dstOf ops j ≠ some k) → a.tmps.getD k undef = a0.tmps.getD k undef) ∧
      (∀ i, i < ops.size → L.getD i false = true → G i (slotOf ops a i) w)) (fun L a w h => h.1) ?_ ?_ _ _ _ _ ?_ ?_
  · rintro L a w i ⟨h1, h2, h3, h4, h5, h6⟩ hi
    obtain ⟨o, ho, hlt, hL, haf⟩ := ready_spec hi
    obtain ⟨d, hdi, hdn, hdj⟩ := dsts_spec hd hlt
    have hod : o.dst = some d := by simpa [dstOf, ho] using hdi
    have hst := step i o ho a w h2 h3 h4 h5 (fun e he hb => h6 e.on (by
      have := haf e he hb
      rcases Nat.lt_or_ge e.on ops.size with h' | h'
      · exact h'
      · rw [Array.getD_eq_getD_getElem?, Array.getElem?_eq_none (by omega)] at this; simp at this) (haf e he hb))
    unfold wpOp
    rw [ho]
    split at hst
    · rename_i hw
      simp only [hw, if_true]
      refine .inl (Oper.wp_mono ?_ hst)
      rintro a' w' ⟨v, rfl, hb, hW', hG⟩
      have hda : d < a.tmps.size := by omega
      rw [hod]
      refine ⟨by rw [Array.size_setIfInBounds]; exact h1, hW', by simp only [Act.put]; exact h3, by simp only [Act.put, Array.size_setIfInBounds]; exact h4, ?_, ?_⟩
      · intro k hk
        rw [getD_put _ _ _ _ hda, if_neg (fun e => hk i hlt (by rw [e]; exact hdi))]
        exact h5 k hk
      · intro j hj hLj
        by_cases e : j = i
        · subst e
          unfold slotOf
          rw [hdi, Option.getD_some, getD_put _ _ _ _ hda, if_pos rfl]
          exact hG
        · obtain ⟨dj, hdj1, hdj2, hdj3⟩ := dsts_spec hd hj
          have hne : dj ≠ d := fun e2 => hdj j hj e (by rw [← e2]; exact hdj1)
          unfold slotOf
          rw [hdj1, Option.getD_some, getD_put _ _ _ _ hda, if_neg hne]
          have hLj' : L.getD j false = true := by
            rw [Array.getD_eq_getD_getElem?, Array.getElem?_setIfInBounds_ne (by omega)] at hLj
            rw [Array.getD_eq_getD_getElem?]; exact hLj
          have := h6 j hj hLj'
          unfold slotOf at this
          rw [hdj1, Option.getD_some] at this
          exact stable j _ w w' h2 hW' hb this
    · exact hst.elim
  · rintro L a w ⟨h1, h2, h3, h4, h5, h6⟩ hr
    exact done a w h2 h3 h4 h5 fun i hi => h6 i hi (all_listed hah h1 hr i hi)
  · refine ⟨by simp, hW0, rfl, rfl, fun _ _ => rfl, fun i hi h => ?_⟩
    rw [Array.getD_eq_getD_getElem?, Array.getElem?_replicate] at h
    simp [hi] at h
  · unfold left
    exact Nat.le_trans (List.countP_le_length) (by simp)
end Go.Proofs.Ytmcipkogkibkaaa
