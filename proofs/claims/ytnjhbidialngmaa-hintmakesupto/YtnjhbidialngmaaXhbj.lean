/-
  hint's small functions: hasRecord, pointerTo.
  HINT FILES, PLAINLY: bytes that are frames from end to end ('Cl'); a segment's hint file ('hof'); what is read of one ('ldS').
-/
import Derived.Test.YtnjhbidialngmaaXhac
import Derived.Test.YtnjhbidialngmaaXhbe
namespace Go.Proofs.Ytnjhbidialngmaa
open Go.RowKit
namespace Vt
attribute [local go_sem] Oper.semAt_some
/-- is a frame a record's? -/
def isRec (f : Fr) : Bool := decide (f.kind = 1) || decide (f.kind = 2)
set_option maxRecDepth 100000 in
set_option maxHeartbeats 1000000 in
theorem hasRecord_is (f : Fr) (w : World) : Calls Try.prog 40 #[.agg (fv f)] w fun e w' => e = .returned (.bool (isRec f)) ∧ Below w.heap.size w w' := by
  obtain ⟨k, ⟨rl, rk, rkey, rval⟩, ⟨pl, pk, pa, pn, pkey⟩, ⟨ec, eb, ef, es⟩⟩ := f
  simp only [fv]
  by_cases h1 : k = 1
  · subst h1
    go_enter Try.func40, Try.ntmps40
    go_wp2
    go_ret
    exact ⟨rfl, (Below.refl _ _).alloc (Nat.le_refl _) _⟩
  · by_cases h2 : k = 2
    · subst h2
      go_enter Try.func40, Try.ntmps40
      go_wp2
      go_ret
      exact ⟨rfl, (Below.refl _ _).alloc (Nat.le_refl _) _⟩
    · have e1 : (k == 1) = false := by simp [h1]
      have e2 : (k == 2) = false := by simp [h2]
      have HR := hd (show isRec ⟨k, ⟨rl, rk, rkey, rval⟩, ⟨pl, pk, pa, pn, pkey⟩, ⟨ec, eb, ef, es⟩⟩ = false by unfold isRec; simp [h1, h2])
      go_enter Try.func40, Try.ntmps40
      go_wp2
      go_ret
      exact ⟨by rw [HR.out]; rfl, (Below.refl _ _).alloc (Nat.le_refl _) _⟩
/-- a pointer's cells -/
def pv (p : Ptr) : Array Value := #[.int .u64 (p.lsn : Int), .int .i64 p.kind, .int .i64 p.at_, .int .i64 p.len, .string p.key]
/-- an ending's cells -/
def ev (e : Edg) : Array Value := #[.int .i64 e.count, .int .i64 e.bytes, .int .i64 e.frames, .int .u32 (e.sum : Int)]
/-- the cells of a frame with a place and a length -/
def lfv (f : Fr) (at_ len : Int) : Array Value := #[.int .i64 f.kind, .int .u64 (f.r.lsn : Int), .int .i64 f.r.kind, .string f.r.key, .string f.r.val, .int .u64 (f.p.lsn : Int), .int .i64 f.p.kind, .int .i64 f.p.at_, .int .i64 f.p.len, .string f.p.key, .int .i64 f.e.count, .int .i64 f.e.bytes, .int .i64 f.e.frames, .int .u32 (f.e.sum : Int), .int .i64 at_, .int .i64 len]
/-- the pointer to a frame at a place -/
def ptr (f : Fr) (at_ len : Int) : Ptr := ⟨f.r.lsn, f.r.kind, at_, len, f.r.key⟩
set_option maxRecDepth 100000 in
set_option maxHeartbeats 1000000 in
theorem pointerTo_is (f : Fr) (at_ len : Int) (w : World) : Calls Try.prog 42 #[.agg (lfv f at_ len)] w fun e w' => e = .returned (.agg (pv (ptr f at_ len))) ∧ Below w.heap.size w w' := by
  obtain ⟨k, ⟨rl, rk, rkey, rval⟩, ⟨pl, pk, pa, pn, pkey⟩, ⟨ec, eb, ef, es⟩⟩ := f
  simp only [lfv]
  go_enter Try.func42, Try.ntmps42
  go_wp2
  refine bodyPost_ret (results_cell_row rfl _ _ (w.heap.size + 1) 27 _ (0, 0) _ rfl ((Below.heap_alloc _ _ _ (by simp)).trans (heap_two _ _ _)) Try.underlying27 rfl (by kernel_rfl)) rfl ?_
  exact ⟨rfl, (((Below.refl _ _).alloc (Nat.le_refl _) _).alloc (by simp) _).alloc (by simp; omega) _⟩
end Vt
end Go.Proofs.Ytnjhbidialngmaa
namespace Go.Proofs.Ytnjhbidialngmaa
namespace Vt
/-- the lengths of some frames together -/
def sml (L : List Lc) : Nat := (L.map fun x => x.2.1).sum
theorem sml_nil : sml [] = 0 := rfl
theorem sml_cons (x : Lc) (L : List Lc) : sml (x :: L) = x.2.1 + sml L := by simp [sml]
theorem sml_app (L M : List Lc) : sml (L ++ M) = sml L + sml M := by simp [sml]
theorem sml_le {l : List Nat} (hb : Byt l) : ∀ n, l.length ≤ n → ∀ at_, sml (locs at_ l) ≤ l.length := by
  intro n
  induction n generalizing l with
  | zero =>
    intro h at_
    obtain rfl : l = [] := List.length_eq_zero_iff.1 (by omega)
    simp [locs, sml]
  | succ n ih =>
    intro h at_
    by_cases hne : l = []
    · subst hne; simp [locs, sml]
    · have hlen : 1 ≤ l.length := by cases l with
        | nil => exact absurd rfl hne
        | cons x r => simp
      by_cases he : (dcd l).2.2 = 0
      · obtain ⟨_, _, e3, e4, _⟩ := en_dcd hb he
        have hp := en_pos (dcd l).1
        rw [locs_ok hb at_ he, sml_cons]
        have := ih (l := l.drop (dcd l).2.1) (byt_drop hb _) (by rw [List.length_drop]; omega) (at_ + (dcd l).2.1)
        rw [List.length_drop] at this
        simp only
        omega
      · rw [locs_err he]
        have := ih (l := l.drop 1) (byt_drop hb _) (by rw [List.length_drop]; omega) (at_ + 1)
        rw [List.length_drop] at this
        omega
/-- frames from end to end -/
def Cl (l : List Nat) : Prop := sml (locs 0 l) = l.length
/-- a gap: not clean -/
theorem gap {l : List Nat} (hb : Byt l) {pre : List Lc} {at_ : Nat} (hat : at_ < l.length) (hs : sml pre = at_) (hl : locs 0 l = pre ++ locs at_ (l.drop at_)) (he : (dcd (l.drop at_)).2.2 ≠ 0) : ¬ Cl l := by
  intro h
  unfold Cl at h
  rw [hl, sml_app, locs_err he, List.drop_drop, hs] at h
  have := sml_le (byt_drop hb (at_ + 1)) _ (Nat.le_refl _) (at_ + 1)
  rw [List.length_drop] at this
  omega
/-- frames that may be, with their places from at_ on -/
def lay (at_ : Nat) : List Fr → List Lc
  | [] => []
  | f :: r => (at_, (en f).length, f) :: lay (at_ + (en f).length) r
theorem lay_snd (fs : List Fr) : ∀ at_, (lay at_ fs).map (fun x => x.2.2) = fs := by
  induction fs with
  | nil => intro at_; rfl
  | cons f r ih => intro at_; simp [lay, ih]
theorem lay_app (fs gs : List Fr) : ∀ at_, lay at_ (fs ++ gs) = lay at_ fs ++ lay (at_ + (fs.map en).flatten.length) gs := by
  induction fs with
  | nil => intro at_; simp [lay]
  | cons f r ih => intro at_; simp only [List.cons_append, lay, ih]; simp [Nat.add_assoc]
theorem lay_sml (fs : List Fr) : ∀ at_, sml (lay at_ fs) = (fs.map en).flatten.length := by
  induction fs with
  | nil => intro at_; rfl
  | cons f r ih => intro at_; rw [lay, sml_cons, ih]; simp
theorem en_bytH {f : Fr} (h : rf f = 0) : Byt (en f) := by
  rw [en_eq]
  intro x hx
  rcases List.mem_cons.1 hx with rfl | hx
  · decide
  · exact byt_app (dg_byt _ _) (byt_app (wr_byt (bd_byt h)) (dg_byt _ _)) x hx
/-- what is written from end to end is found so -/
theorem locs_lay {fs : List Fr} (h : ∀ f ∈ fs, f.Wf ∧ rf f = 0) : Byt (fs.map en).flatten → ∀ at_, locs at_ (fs.map en).flatten = lay at_ fs := by
  induction fs with
  | nil => intro _ at_; rfl
  | cons f r ih =>
    intro hb at_
    rw [List.map_cons, List.flatten_cons] at hb ⊢
    rw [locs_en (h f List.mem_cons_self).1 (h f List.mem_cons_self).2 hb, lay, ih (fun g hg => h g (List.mem_cons_of_mem _ hg)) (fun y hy => hb y (List.mem_append_right _ hy))]
theorem lay_cl {fs : List Fr} (h : ∀ f ∈ fs, f.Wf ∧ rf f = 0) (hb : Byt (fs.map en).flatten) : Cl (fs.map en).flatten := by
  unfold Cl; rw [locs_lay h hb, lay_sml]
/-- the Hint frame of a pointer -/
def hfr (p : Ptr) : Fr := ⟨3, zr, p, ze⟩
/-- the Foot frame of an ending -/
def ffr (e : Edg) : Fr := ⟨4, zr, zp, e⟩
/-- the pointer to what stands at a place -/
def pto (x : Lc) : Ptr := ptr x.2.2 (x.1 : Int) (x.2.1 : Int)
/-- the ending for clean bytes -/
noncomputable def edg (l : List Nat) : Edg := ⟨((locs 0 l).length : Int), (l.length : Int), ((locs 0 l).length : Int), Crc.go 0 l⟩
/-- the hint frames of some records -/
def hbs (L : List Lc) : List Nat := (L.map fun x => en (hfr (pto x))).flatten
theorem hbs_snoc (L : List Lc) (x : Lc) : hbs (L ++ [x]) = hbs L ++ en (hfr (pto x)) := by simp [hbs]
/-- may a segment have a hint file? -/
def May (l : List Nat) : Prop := l.length ≤ 4194304 ∧ Cl l ∧ ∀ x ∈ locs 0 l, isRec x.2.2 = true
/-- the hint file of a segment that may have one -/
noncomputable def hof (l : List Nat) : List Nat := hbs (locs 0 l) ++ en (ffr (edg l))
theorem isRec_kind {f : Fr} (h : isRec f = true) : f.kind = 1 ∨ f.kind = 2 := by
  unfold isRec at h
  rw [Bool.or_eq_true, decide_eq_true_eq, decide_eq_true_eq] at h
  exact h
theorem hfr_ok {l : List Nat} (hb : Byt l) (hl : l.length ≤ 4194304) {x : Lc} (hx : x ∈ locs 0 l) (hr : isRec x.2.2 = true) : rf (hfr (pto x)) = 0 ∧ (hfr (pto x)).Wf := by
  obtain ⟨h1, h2, h3, h4, h5, h6⟩ := locs_mem hb 0 x hx
  have hk := isRec_kind hr
  unfold rf at h5
  rw [if_pos hk] at h5
  obtain ⟨e1, e2, e3, e4, e5⟩ := rfR_ok h5
  constructor
  · unfold rf rfP hfr pto ptr
    simp only
    rw [if_neg (by omega), if_pos trivial, if_neg (by omega), if_neg e2, if_neg (by exact fun h => h e3), if_neg (by unfold onD; omega), if_neg (by simp)]
  · unfold Fr.Wf hfr pto ptr zr ze
    exact ⟨by simp, h6.1, by simp⟩
theorem ffr_ok {l : List Nat} (hb : Byt l) (hl : l.length ≤ 4194304) : rf (ffr (edg l)) = 0 ∧ (ffr (edg l)).Wf := by
  have hn := locs_len hb _ (Nat.le_refl _) 0
  constructor
  · unfold rf rfE ffr edg
    simp only
    rw [if_neg (by omega), if_neg (by omega), if_pos trivial, if_neg (by unfold onD; omega), if_neg (by simp)]
  · unfold Fr.Wf ffr edg zr zp
    exact ⟨by simp, by simp, Crc.go_lt 0 l⟩
/-- what is read of a hint file so far -/
structure St where
  ps : List Ptr
  e : Edg
  ended : Bool
  next : Int
def st0 : St := ⟨[], ze, false, 0⟩
/-- one more frame: none: refused -/
def stp (s : St) (f : Fr) : Option St :=
  if s.ended = true then none else if f.kind = 4 then some ⟨s.ps, f.e, true, s.next⟩
  else if f.kind = 3 ∧ f.p.at_ = s.next then some ⟨s.ps ++ [f.p], s.e, s.ended, s.next + f.p.len⟩ else none
def sts (s : Option St) (L : List Lc) : Option St := L.foldl (fun s x => s.bind fun s => stp s x.2.2) s
theorem sts_snoc (s : Option St) (L : List Lc) (x : Lc) : sts s (L ++ [x]) = (sts s L).bind fun s => stp s x.2.2 := by unfold sts; rw [List.foldl_append]; rfl
theorem sts_none (L : List Lc) : sts none L = none := by
  induction L with
  | nil => rfl
  | cons x r ih => exact ih
theorem sts_pre {s : Option St} {L M : List Lc} (h : sts s L = none) (hp : L <+: M) : sts s M = none := by
  obtain ⟨t, rfl⟩ := hp
  unfold sts at h ⊢
  rw [List.foldl_append, h]
  exact sts_none t
/-- what the form of a hint file tells, if it is one -/
def good (s : St) : Prop := s.ended = true ∧ s.e.count = (s.ps.length : Int) ∧ s.e.frames = (s.ps.length : Int) ∧ s.e.bytes = s.next
open Classical in
noncomputable def ldS (l : List Nat) : Option St := if Cl l then (sts (some st0) (locs 0 l)).bind fun s => if good s then some s else none else none
end Vt
end Go.Proofs.Ytnjhbidialngmaa
