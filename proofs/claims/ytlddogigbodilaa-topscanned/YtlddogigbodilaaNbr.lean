/-
  HINT FILES, PLAINLY: bytes that are frames from end to end ('Cl'); a segment's hint file ('hof'); what is read of one ('ldS').
  joined: bytes one behind the other.
-/
import Derived.Test.YtlddogigbodilaaNbc
import Derived.Test.YtlddogigbodilaaNbq
import Derived.Test.YtlddogigbodilaaNbn
namespace Go.Proofs.Ytlddogigbodilaa
namespace Vt
/-- the lengths of some frames together -/
def sml (L : List Lc) : Nat := (L.map fun x => x.2.1).sum
theorem sml_nil : sml [] = 0 := rfl
theorem sml_cons (x : Lc) (L : List Lc) : sml (x :: L) = x.2.1 + sml L := by simp [sml]
theorem sml_app (L M : List Lc) : sml (L ++ M) = sml L + sml M := by simp [sml]
theorem sml_le {l : List Nat} (hb : Byt l) : ∀ n, l.length ≤ n → ∀ at_, sml (locs at_ l) ≤ l.length := by
  intro n
  induction n generalizing l with
  | zero =>
    intro h at_
    obtain rfl : l = [] := List.length_eq_zero_iff.1 (by omega)
    simp [locs, sml]
  | succ n ih =>
    intro h at_
    by_cases hne : l = []
    · subst hne; simp [locs, sml]
    · have hlen : 1 ≤ l.length := by cases l with
        | nil => exact absurd rfl hne
        | cons x r => simp
      by_cases he : (dcd l).2.2 = 0
      · obtain ⟨_, _, e3, e4, _⟩ := en_dcd hb he
        have hp := en_pos (dcd l).1
        rw [locs_ok hb at_ he, sml_cons]
        have := ih (l := l.drop (dcd l).2.1) (byt_drop hb _) (by rw [List.length_drop]; omega) (at_ + (dcd l).2.1)
        rw [List.length_drop] at this
        simp only
        omega
      · rw [locs_err he]
        have := ih (l := l.drop 1) (byt_drop hb _) (by rw [List.length_drop]; omega) (at_ + 1)
        rw [List.length_drop] at this
        omega
/-- frames from end to end -/
def Cl (l : List Nat) : Prop := sml (locs 0 l) = l.length
theorem sml_shift (l : List Nat) (q at_ : Nat) : sml (locs (q + at_) l) = sml (locs at_ l) := by
  rw [locs_shift]; simp [sml]; rfl
/-- a gap: not clean -/
theorem gap {l : List Nat} (hb : Byt l) {pre : List Lc} {at_ : Nat} (hat : at_ < l.length) (hs : sml pre = at_) (hl : locs 0 l = pre ++ locs at_ (l.drop at_)) (he : (dcd (l.drop at_)).2.2 ≠ 0) : ¬ Cl l := by
  intro h
  unfold Cl at h
  rw [hl, sml_app, locs_err he, List.drop_drop, hs] at h
  have := sml_le (byt_drop hb (at_ + 1)) _ (Nat.le_refl _) (at_ + 1)
  rw [List.length_drop] at this
  omega
/-- clean bytes are their frames written -/
theorem cl_flat {l : List Nat} (hb : Byt l) : ∀ n, l.length ≤ n → ∀ at_, sml (locs at_ l) = l.length → ((locs at_ l).map fun x => en x.2.2).flatten = l := by
  intro n
  induction n generalizing l with
  | zero =>
    intro h at_ _
    obtain rfl : l = [] := List.length_eq_zero_iff.1 (by omega)
    simp [locs]
  | succ n ih =>
    intro h at_ hs
    by_cases hne : l = []
    · subst hne; simp [locs]
    · have hlen : 1 ≤ l.length := by cases l with
        | nil => exact absurd rfl hne
        | cons x r => simp
      by_cases he : (dcd l).2.2 = 0
      · obtain ⟨_, _, e3, e4, e5⟩ := en_dcd hb he
        have hp := en_pos (dcd l).1
        rw [locs_ok hb at_ he] at hs ⊢
        rw [sml_cons] at hs
        simp only at hs
        have := ih (l := l.drop (dcd l).2.1) (byt_drop hb _) (by rw [List.length_drop]; omega) (at_ + (dcd l).2.1) (by rw [List.length_drop]; omega)
        rw [List.map_cons, List.flatten_cons, this, ← e5, List.take_append_drop]
      · rw [locs_err he] at hs
        have := sml_le (byt_drop hb 1) _ (Nat.le_refl _) (at_ + 1)
        rw [List.length_drop] at this
        omega
theorem Cl.flat {l : List Nat} (hb : Byt l) (h : Cl l) : ((locs 0 l).map fun x => en x.2.2).flatten = l := cl_flat hb _ (Nat.le_refl _) 0 h
/-- frames that may be, with their places from at_ on -/
def lay (at_ : Nat) : List Fr → List Lc
  | [] => []
  | f :: r => (at_, (en f).length, f) :: lay (at_ + (en f).length) r
theorem lay_snd (fs : List Fr) : ∀ at_, (lay at_ fs).map (fun x => x.2.2) = fs := by
  induction fs with
  | nil => intro at_; rfl
  | cons f r ih => intro at_; simp [lay, ih]
theorem lay_app (fs gs : List Fr) : ∀ at_, lay at_ (fs ++ gs) = lay at_ fs ++ lay (at_ + (fs.map en).flatten.length) gs := by
  induction fs with
  | nil => intro at_; simp [lay]
  | cons f r ih => intro at_; simp only [List.cons_append, lay, ih]; simp [Nat.add_assoc]
theorem lay_sml (fs : List Fr) : ∀ at_, sml (lay at_ fs) = (fs.map en).flatten.length := by
  induction fs with
  | nil => intro at_; rfl
  | cons f r ih => intro at_; rw [lay, sml_cons, ih]; simp
theorem en_bytH {f : Fr} (h : rf f = 0) : Byt (en f) := by
  rw [en_eq]
  intro x hx
  rcases List.mem_cons.1 hx with rfl | hx
  · decide
  · exact byt_app (dg_byt _ _) (byt_app (wr_byt (bd_byt h)) (dg_byt _ _)) x hx
/-- what is written from end to end is found so -/
theorem locs_lay {fs : List Fr} (h : ∀ f ∈ fs, f.Wf ∧ rf f = 0) : Byt (fs.map en).flatten → ∀ at_, locs at_ (fs.map en).flatten = lay at_ fs := by
  induction fs with
  | nil => intro _ at_; rfl
  | cons f r ih =>
    intro hb at_
    rw [List.map_cons, List.flatten_cons] at hb ⊢
    rw [locs_en (h f List.mem_cons_self).1 (h f List.mem_cons_self).2 hb, lay, ih (fun g hg => h g (List.mem_cons_of_mem _ hg)) (fun y hy => hb y (List.mem_append_right _ hy))]
theorem lay_cl {fs : List Fr} (h : ∀ f ∈ fs, f.Wf ∧ rf f = 0) (hb : Byt (fs.map en).flatten) : Cl (fs.map en).flatten := by
  unfold Cl; rw [locs_lay h hb, lay_sml]
/-- the Hint frame of a pointer -/
def hfr (p : Ptr) : Fr := ⟨3, zr, p, ze⟩
/-- the Foot frame of an ending -/
def ffr (e : Edg) : Fr := ⟨4, zr, zp, e⟩
/-- the pointer to what stands at a place -/
def pto (x : Lc) : Ptr := ptr x.2.2 (x.1 : Int) (x.2.1 : Int)
/-- the ending for clean bytes -/
noncomputable def edg (l : List Nat) : Edg := ⟨((locs 0 l).length : Int), (l.length : Int), ((locs 0 l).length : Int), Crc.go 0 l⟩
/-- the hint frames of some records -/
def hbs (L : List Lc) : List Nat := (L.map fun x => en (hfr (pto x))).flatten
theorem hbs_snoc (L : List Lc) (x : Lc) : hbs (L ++ [x]) = hbs L ++ en (hfr (pto x)) := by simp [hbs]
/-- may a segment have a hint file? -/
def May (l : List Nat) : Prop := l.length ≤ 4194304 ∧ Cl l ∧ ∀ x ∈ locs 0 l, isRec x.2.2 = true
/-- the hint file of a segment that may have one -/
noncomputable def hof (l : List Nat) : List Nat := hbs (locs 0 l) ++ en (ffr (edg l))
theorem isRec_kind {f : Fr} (h : isRec f = true) : f.kind = 1 ∨ f.kind = 2 := by
  unfold isRec at h
  rw [Bool.or_eq_true, decide_eq_true_eq, decide_eq_true_eq] at h
  exact h
theorem hfr_ok {l : List Nat} (hb : Byt l) (hl : l.length ≤ 4194304) {x : Lc} (hx : x ∈ locs 0 l) (hr : isRec x.2.2 = true) : rf (hfr (pto x)) = 0 ∧ (hfr (pto x)).Wf := by
  obtain ⟨h1, h2, h3, h4, h5, h6⟩ := locs_mem hb 0 x hx
  have hk := isRec_kind hr
  unfold rf at h5
  rw [if_pos hk] at h5
  obtain ⟨e1, e2, e3, e4, e5⟩ := rfR_ok h5
  constructor
  · unfold rf rfP hfr pto ptr
    simp only
    rw [if_neg (by omega), if_pos trivial, if_neg (by omega), if_neg e2, if_neg (by exact fun h => h e3), if_neg (by unfold onD; omega), if_neg (by simp)]
  · unfold Fr.Wf hfr pto ptr zr ze
    exact ⟨by simp, h6.1, by simp⟩
theorem ffr_ok {l : List Nat} (hb : Byt l) (hl : l.length ≤ 4194304) : rf (ffr (edg l)) = 0 ∧ (ffr (edg l)).Wf := by
  have hn := locs_len hb _ (Nat.le_refl _) 0
  constructor
  · unfold rf rfE ffr edg
    simp only
    rw [if_neg (by omega), if_neg (by omega), if_pos trivial, if_neg (by unfold onD; omega), if_neg (by simp)]
  · unfold Fr.Wf ffr edg zr zp
    exact ⟨by simp, by simp, Crc.go_lt 0 l⟩
/-- what is read of a hint file so far -/
structure St where
  ps : List Ptr
  e : Edg
  ended : Bool
  next : Int
def st0 : St := ⟨[], ze, false, 0⟩
/-- one more frame: none: refused -/
def stp (s : St) (f : Fr) : Option St :=
  if s.ended = true then none else if f.kind = 4 then some ⟨s.ps, f.e, true, s.next⟩
  else if f.kind = 3 ∧ f.p.at_ = s.next then some ⟨s.ps ++ [f.p], s.e, s.ended, s.next + f.p.len⟩ else none
def sts (s : Option St) (L : List Lc) : Option St := L.foldl (fun s x => s.bind fun s => stp s x.2.2) s
theorem sts_snoc (s : Option St) (L : List Lc) (x : Lc) : sts s (L ++ [x]) = (sts s L).bind fun s => stp s x.2.2 := by unfold sts; rw [List.foldl_append]; rfl
theorem sts_none (L : List Lc) : sts none L = none := by
  induction L with
  | nil => rfl
  | cons x r ih => exact ih
theorem sts_pre {s : Option St} {L M : List Lc} (h : sts s L = none) (hp : L <+: M) : sts s M = none := by
  obtain ⟨t, rfl⟩ := hp
  unfold sts at h ⊢
  rw [List.foldl_append, h]
  exact sts_none t
/-- what the form of a hint file tells, if it is one -/
def good (s : St) : Prop := s.ended = true ∧ s.e.count = (s.ps.length : Int) ∧ s.e.frames = (s.ps.length : Int) ∧ s.e.bytes = s.next
open Classical in
noncomputable def ldS (l : List Nat) : Option St := if Cl l then (sts (some st0) (locs 0 l)).bind fun s => if good s then some s else none else none
end Vt
end Go.Proofs.Ytlddogigbodilaa
namespace Go.Proofs.Ytlddogigbodilaa
open Go.ChangeShapes Go.WideShapes Go.ChangeAt Go.RowKit Go.Shelf
namespace Vt
set_option maxRecDepth 100000 in
set_option maxHeartbeats 1000000 in
theorem joined_is (v u : Value) (l m : List Nat) (w : World) (hI : IsB w v l) (hU : IsB w u m) (hm : l.length + m.length ≤ 140737488355328) :
    Calls Try.prog 42 #[v, u] w fun e w' => ∃ x, e = .returned x ∧ JB w' w.heap.size x (l ++ m) ∧ Below w.heap.size w w' := by
  obtain ⟨a, c, rfl⟩ := hI.shape
  obtain ⟨ub, uc, rfl⟩ := hU.shape
  have HI := hd hI
  have HU := hd hU
  clear hI hU
  have tok1 : True := trivial
  go_enter Try.func42, Try.ntmps42
  go_wp2_with (first
    | (at_builtin; have _t := tok1; refine wpList_append_jk Try.underlying22 info_u8 _ rfl _ _ rfl w.heap.size (.slice none 0 0) (.slice a l.length c) [] l rfl rfl (jk_nil _ _) HI.out l.length (by simp) l rfl (by omega) (by omega) (Nat.le_refl _) ?_; intro a2 c2 w2 hj2 hg2 hk2 hc2; clear tok1; have tok2 : True := trivial; have b2 : Below w.heap.size w w2 := (Below.refl _ w).grown hg2 (Nat.le_refl _) (fun k e => by cases e); have hs2 := b2.size; clear hk2)
    | (at_builtin; have _t := tok2; refine wpList_append_jk Try.underlying22 info_u8 _ rfl _ _ rfl w.heap.size (.slice a2 l.length c2) (.slice ub m.length uc) l m rfl rfl hj2 (HU.out.below b2) (l.length + m.length) rfl (l ++ m) rfl (by omega) (by omega) hs2 ?_; intro a3 c3 w3 hj3 hg3 hk3 hc3; clear tok2; have b3 := b2.grown hg3 hs2 (fun k e => hj2.blk_ge k e); clear hk3))
  go_ret
  exact ⟨_, rfl, hj3, b3⟩
end Vt
end Go.Proofs.Ytlddogigbodilaa
