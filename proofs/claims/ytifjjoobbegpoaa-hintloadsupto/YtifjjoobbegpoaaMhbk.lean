/-
  hint's small functions: hasRecord, pointerTo.
  HINT FILES, PLAINLY: bytes that are frames from end to end ('Cl'); a segment's hint file ('hof'); what is read of one ('ldS').
  THE REFERENCE OF LAYER 10: Run: the frames that bytes are from end to end.
-/
import Derived.Test.YtifjjoobbegpoaaMhab
import Derived.Test.YtifjjoobbegpoaaMhbe
import Derived.Test.YtifjjoobbegpoaaMhbi
import Derived.Test.YtifjjoobbegpoaaMhbj
namespace Go.Proofs.Ytifjjoobbegpoaa
open Go.RowKit
namespace Vt
attribute [local go_sem] Oper.semAt_some
/-- is a frame a record's? -/
def isRec (f : Fr) : Bool := decide (f.kind = 1) || decide (f.kind = 2)
set_option maxRecDepth 100000 in
set_option maxHeartbeats 1000000 in
theorem hasRecord_is (f : Fr) (w : World) : Calls Try.prog 51 #[.agg (fv f)] w fun e w' => e = .returned (.bool (isRec f)) ∧ Below w.heap.size w w' := by
  obtain ⟨k, ⟨rl, rk, rkey, rval⟩, ⟨pl, pk, pa, pn, pkey⟩, ⟨ec, eb, ef, es⟩⟩ := f
  simp only [fv]
  by_cases h1 : k = 1
  · subst h1
    go_enter Try.func51, Try.ntmps51
    go_wp2
    go_ret
    exact ⟨rfl, (Below.refl _ _).alloc (Nat.le_refl _) _⟩
  · by_cases h2 : k = 2
    · subst h2
      go_enter Try.func51, Try.ntmps51
      go_wp2
      go_ret
      exact ⟨rfl, (Below.refl _ _).alloc (Nat.le_refl _) _⟩
    · have e1 : (k == 1) = false := by simp [h1]
      have e2 : (k == 2) = false := by simp [h2]
      have HR := hd (show isRec ⟨k, ⟨rl, rk, rkey, rval⟩, ⟨pl, pk, pa, pn, pkey⟩, ⟨ec, eb, ef, es⟩⟩ = false by unfold isRec; simp [h1, h2])
      go_enter Try.func51, Try.ntmps51
      go_wp2
      go_ret
      exact ⟨by rw [HR.out]; rfl, (Below.refl _ _).alloc (Nat.le_refl _) _⟩
/-- a pointer's cells -/
def pv (p : Ptr) : Array Value := #[.int .u64 (p.lsn : Int), .int .i64 p.kind, .int .i64 p.at_, .int .i64 p.len, .string p.key]
/-- an ending's cells -/
def ev (e : Edg) : Array Value := #[.int .i64 e.count, .int .i64 e.bytes, .int .i64 e.frames, .int .u32 (e.sum : Int)]
/-- the cells of a frame with a place and a length -/
def lfv (f : Fr) (at_ len : Int) : Array Value := #[.int .i64 f.kind, .int .u64 (f.r.lsn : Int), .int .i64 f.r.kind, .string f.r.key, .string f.r.val, .int .u64 (f.p.lsn : Int), .int .i64 f.p.kind, .int .i64 f.p.at_, .int .i64 f.p.len, .string f.p.key, .int .i64 f.e.count, .int .i64 f.e.bytes, .int .i64 f.e.frames, .int .u32 (f.e.sum : Int), .int .i64 at_, .int .i64 len]
/-- the pointer to a frame at a place -/
def ptr (f : Fr) (at_ len : Int) : Ptr := ⟨f.r.lsn, f.r.kind, at_, len, f.r.key⟩
set_option maxRecDepth 100000 in
set_option maxHeartbeats 1000000 in
theorem pointerTo_is (f : Fr) (at_ len : Int) (w : World) : Calls Try.prog 53 #[.agg (lfv f at_ len)] w fun e w' => e = .returned (.agg (pv (ptr f at_ len))) ∧ Below w.heap.size w w' := by
  obtain ⟨k, ⟨rl, rk, rkey, rval⟩, ⟨pl, pk, pa, pn, pkey⟩, ⟨ec, eb, ef, es⟩⟩ := f
  simp only [lfv]
  go_enter Try.func53, Try.ntmps53
  go_wp2
  refine bodyPost_ret (results_cell_row rfl _ _ (w.heap.size + 1) 34 _ (0, 0) _ rfl ((Below.heap_alloc _ _ _ (by simp)).trans (heap_two _ _ _)) Try.underlying34 rfl (by kernel_rfl)) rfl ?_
  exact ⟨rfl, (((Below.refl _ _).alloc (Nat.le_refl _) _).alloc (by simp) _).alloc (by simp; omega) _⟩
end Vt
end Go.Proofs.Ytifjjoobbegpoaa
namespace Go.Proofs.Ytifjjoobbegpoaa
namespace Vt
/-- the lengths of some frames together -/
def sml (L : List Lc) : Nat := (L.map fun x => x.2.1).sum
theorem sml_nil : sml [] = 0 := rfl
theorem sml_cons (x : Lc) (L : List Lc) : sml (x :: L) = x.2.1 + sml L := by simp [sml]
theorem sml_app (L M : List Lc) : sml (L ++ M) = sml L + sml M := by simp [sml]
theorem sml_le {l : List Nat} (hb : Byt l) : ∀ n, l.length ≤ n → ∀ at_, sml (locs at_ l) ≤ l.length := by
  intro n
  induction n generalizing l with
  | zero =>
    intro h at_
    obtain rfl : l = [] := List.length_eq_zero_iff.1 (by omega)
    simp [locs, sml]
  | succ n ih =>
    intro h at_
    by_cases hne : l = []
    · subst hne; simp [locs, sml]
    · have hlen : 1 ≤ l.length := by cases l with
        | nil => exact absurd rfl hne
        | cons x r => simp
      by_cases he : (dcd l).2.2 = 0
      · obtain ⟨_, _, e3, e4, _⟩ := en_dcd hb he
        have hp := en_pos (dcd l).1
        rw [locs_ok hb at_ he, sml_cons]
        have := ih (l := l.drop (dcd l).2.1) (byt_drop hb _) (by rw [List.length_drop]; omega) (at_ + (dcd l).2.1)
        rw [List.length_drop] at this
        simp only
        omega
      · rw [locs_err he]
        have := ih (l := l.drop 1) (byt_drop hb _) (by rw [List.length_drop]; omega) (at_ + 1)
        rw [List.length_drop] at this
        omega
/-- frames from end to end -/
def Cl (l : List Nat) : Prop := sml (locs 0 l) = l.length
theorem sml_shift (l : List Nat) (q at_ : Nat) : sml (locs (q + at_) l) = sml (locs at_ l) := by
  rw [locs_shift]; simp [sml]; rfl
/-- a gap: not clean -/
theorem gap {l : List Nat} (hb : Byt l) {pre : List Lc} {at_ : Nat} (hat : at_ < l.length) (hs : sml pre = at_) (hl : locs 0 l = pre ++ locs at_ (l.drop at_)) (he : (dcd (l.drop at_)).2.2 ≠ 0) : ¬ Cl l := by
  intro h
  unfold Cl at h
  rw [hl, sml_app, locs_err he, List.drop_drop, hs] at h
  have := sml_le (byt_drop hb (at_ + 1)) _ (Nat.le_refl _) (at_ + 1)
  rw [List.length_drop] at this
  omega
/-- clean bytes are their frames written -/
theorem cl_flat {l : List Nat} (hb : Byt l) : ∀ n, l.length ≤ n → ∀ at_, sml (locs at_ l) = l.length → ((locs at_ l).map fun x => en x.2.2).flatten = l := by
  intro n
  induction n generalizing l with
  | zero =>
    intro h at_ _
    obtain rfl : l = [] := List.length_eq_zero_iff.1 (by omega)
    simp [locs]
  | succ n ih =>
    intro h at_ hs
    by_cases hne : l = []
    · subst hne; simp [locs]
    · have hlen : 1 ≤ l.length := by cases l with
        | nil => exact absurd rfl hne
        | cons x r => simp
      by_cases he : (dcd l).2.2 = 0
      · obtain ⟨_, _, e3, e4, e5⟩ := en_dcd hb he
        have hp := en_pos (dcd l).1
        rw [locs_ok hb at_ he] at hs ⊢
        rw [sml_cons] at hs
        simp only at hs
        have := ih (l := l.drop (dcd l).2.1) (byt_drop hb _) (by rw [List.length_drop]; omega) (at_ + (dcd l).2.1) (by rw [List.length_drop]; omega)
        rw [List.map_cons, List.flatten_cons, this, ← e5, List.take_append_drop]
      · rw [locs_err he] at hs
        have := sml_le (byt_drop hb 1) _ (Nat.le_refl _) (at_ + 1)
        rw [List.length_drop] at this
        omega
theorem Cl.flat {l : List Nat} (hb : Byt l) (h : Cl l) : ((locs 0 l).map fun x => en x.2.2).flatten = l := cl_flat hb _ (Nat.le_refl _) 0 h
/-- frames that may be, with their places from at_ on -/
def lay (at_ : Nat) : List Fr → List Lc
  | [] => []
  | f :: r => (at_, (en f).length, f) :: lay (at_ + (en f).length) r
theorem lay_snd (fs : List Fr) : ∀ at_, (lay at_ fs).map (fun x => x.2.2) = fs := by
  induction fs with
  | nil => intro at_; rfl
  | cons f r ih => intro at_; simp [lay, ih]
theorem lay_app (fs gs : List Fr) : ∀ at_, lay at_ (fs ++ gs) = lay at_ fs ++ lay (at_ + (fs.map en).flatten.length) gs := by
  induction fs with
  | nil => intro at_; simp [lay]
  | cons f r ih => intro at_; simp only [List.cons_append, lay, ih]; simp [Nat.add_assoc]
theorem lay_sml (fs : List Fr) : ∀ at_, sml (lay at_ fs) = (fs.map en).flatten.length := by
  induction fs with
  | nil => intro at_; rfl
  | cons f r ih => intro at_; rw [lay, sml_cons, ih]; simp
theorem en_bytH {f : Fr} (h : rf f = 0) : Byt (en f) := by
  rw [en_eq]
  intro x hx
  rcases List.mem_cons.1 hx with rfl | hx
  · decide
  · exact byt_app (dg_byt _ _) (byt_app (wr_byt (bd_byt h)) (dg_byt _ _)) x hx
/-- what is written from end to end is found so -/
theorem locs_lay {fs : List Fr} (h : ∀ f ∈ fs, f.Wf ∧ rf f = 0) : Byt (fs.map en).flatten → ∀ at_, locs at_ (fs.map en).flatten = lay at_ fs := by
  induction fs with
  | nil => intro _ at_; rfl
  | cons f r ih =>
    intro hb at_
    rw [List.map_cons, List.flatten_cons] at hb ⊢
    rw [locs_en (h f List.mem_cons_self).1 (h f List.mem_cons_self).2 hb, lay, ih (fun g hg => h g (List.mem_cons_of_mem _ hg)) (fun y hy => hb y (List.mem_append_right _ hy))]
theorem lay_cl {fs : List Fr} (h : ∀ f ∈ fs, f.Wf ∧ rf f = 0) (hb : Byt (fs.map en).flatten) : Cl (fs.map en).flatten := by
  unfold Cl; rw [locs_lay h hb, lay_sml]
/-- the Hint frame of a pointer -/
def hfr (p : Ptr) : Fr := ⟨3, zr, p, ze⟩
/-- the Foot frame of an ending -/
def ffr (e : Edg) : Fr := ⟨4, zr, zp, e⟩
/-- the pointer to what stands at a place -/
def pto (x : Lc) : Ptr := ptr x.2.2 (x.1 : Int) (x.2.1 : Int)
/-- the ending for clean bytes -/
noncomputable def edg (l : List Nat) : Edg := ⟨((locs 0 l).length : Int), (l.length : Int), ((locs 0 l).length : Int), Crc.go 0 l⟩
/-- the hint frames of some records -/
def hbs (L : List Lc) : List Nat := (L.map fun x => en (hfr (pto x))).flatten
theorem hbs_snoc (L : List Lc) (x : Lc) : hbs (L ++ [x]) = hbs L ++ en (hfr (pto x)) := by simp [hbs]
/-- may a segment have a hint file? -/
def May (l : List Nat) : Prop := l.length ≤ 4194304 ∧ Cl l ∧ ∀ x ∈ locs 0 l, isRec x.2.2 = true
/-- the hint file of a segment that may have one -/
noncomputable def hof (l : List Nat) : List Nat := hbs (locs 0 l) ++ en (ffr (edg l))
theorem isRec_kind {f : Fr} (h : isRec f = true) : f.kind = 1 ∨ f.kind = 2 := by
  unfold isRec at h
  rw [Bool.or_eq_true, decide_eq_true_eq, decide_eq_true_eq] at h
  exact h
theorem hfr_ok {l : List Nat} (hb : Byt l) (hl : l.length ≤ 4194304) {x : Lc} (hx : x ∈ locs 0 l) (hr : isRec x.2.2 = true) : rf (hfr (pto x)) = 0 ∧ (hfr (pto x)).Wf := by
  obtain ⟨h1, h2, h3, h4, h5, h6⟩ := locs_mem hb 0 x hx
  have hk := isRec_kind hr
  unfold rf at h5
  rw [if_pos hk] at h5
  obtain ⟨e1, e2, e3, e4, e5⟩ := rfR_ok h5
  constructor
  · unfold rf rfP hfr pto ptr
    simp only
    rw [if_neg (by omega), if_pos trivial, if_neg (by omega), if_neg e2, if_neg (by exact fun h => h e3), if_neg (by unfold onD; omega), if_neg (by simp)]
  · unfold Fr.Wf hfr pto ptr zr ze
    exact ⟨by simp, h6.1, by simp⟩
theorem ffr_ok {l : List Nat} (hb : Byt l) (hl : l.length ≤ 4194304) : rf (ffr (edg l)) = 0 ∧ (ffr (edg l)).Wf := by
  have hn := locs_len hb _ (Nat.le_refl _) 0
  constructor
  · unfold rf rfE ffr edg
    simp only
    rw [if_neg (by omega), if_neg (by omega), if_pos trivial, if_neg (by unfold onD; omega), if_neg (by simp)]
  · unfold Fr.Wf ffr edg zr zp
    exact ⟨by simp, by simp, Crc.go_lt 0 l⟩
/-- what is read of a hint file so far -/
structure St where
  ps : List Ptr
  e : Edg
  ended : Bool
  next : Int
def st0 : St := ⟨[], ze, false, 0⟩
/-- one more frame: none: refused -/
def stp (s : St) (f : Fr) : Option St :=
  if s.ended = true then none else if f.kind = 4 then some ⟨s.ps, f.e, true, s.next⟩
  else if f.kind = 3 ∧ f.p.at_ = s.next then some ⟨s.ps ++ [f.p], s.e, s.ended, s.next + f.p.len⟩ else none
def sts (s : Option St) (L : List Lc) : Option St := L.foldl (fun s x => s.bind fun s => stp s x.2.2) s
theorem sts_snoc (s : Option St) (L : List Lc) (x : Lc) : sts s (L ++ [x]) = (sts s L).bind fun s => stp s x.2.2 := by unfold sts; rw [List.foldl_append]; rfl
theorem sts_none (L : List Lc) : sts none L = none := by
  induction L with
  | nil => rfl
  | cons x r ih => exact ih
theorem sts_pre {s : Option St} {L M : List Lc} (h : sts s L = none) (hp : L <+: M) : sts s M = none := by
  obtain ⟨t, rfl⟩ := hp
  unfold sts at h ⊢
  rw [List.foldl_append, h]
  exact sts_none t
/-- what the form of a hint file tells, if it is one -/
def good (s : St) : Prop := s.ended = true ∧ s.e.count = (s.ps.length : Int) ∧ s.e.frames = (s.ps.length : Int) ∧ s.e.bytes = s.next
open Classical in
noncomputable def ldS (l : List Nat) : Option St := if Cl l then (sts (some st0) (locs 0 l)).bind fun s => if good s then some s else none else none
end Vt
end Go.Proofs.Ytifjjoobbegpoaa
namespace Go.Proofs.Ytifjjoobbegpoaa
open Go.RowKit Go.Shelf
namespace Vt
attribute [local go_sem] Oper.semAt_some
set_option maxRecDepth 100000 in
set_option maxHeartbeats 2000000 in
theorem r10_run (v : Value) (l : List Nat) (w : World) (hI : IsB w v l) (hl : l.length ≤ 16777216) :
    Calls Try.prog 41 #[v] w fun e w' => ((Cl l ∧ ∃ u, e = .returned (.tuple #[u, .bool true]) ∧ JL w' w.heap.size u ((locs 0 l).map lcv)) ∨ (¬ Cl l ∧ e = .returned (.tuple #[.slice none 0 0, .bool false]))) ∧ Below w.heap.size w w' := by
  obtain ⟨a, c, rfl⟩ := hI.shape
  have HI := hd hI
  have hby := hI.1
  have HBY := hd hby
  have hll := locs_len hby _ (Nat.le_refl _) 0
  clear hI hby
  go_enter Try.func41, Try.ntmps41
  go_wp2_with fail
  go_loopw [4, 5] (fun o i wr => ∃ (k : Nat) (pre : List Lc), k ≤ l.length ∧ i = .int .i64 (k : Int) ∧ JL wr w.heap.size o (pre.map lcv) ∧ sml pre = k ∧ locs 0 l = pre ++ locs k (l.drop k) ∧ Below w.heap.size w wr) (fun _ i _ => l.length - (intOf i).toNat)
  case atStart => exact ⟨0, [], by omega, rfl, jr_nil _ _, rfl, by simp, Below.refl _ _⟩
  case round =>
    obtain ⟨k, pre, hk, rfl, hj, hsm, hpre, hb⟩ := hrel
    obtain ⟨av, cv, rfl, hcv⟩ := hj.shape
    have hpl : (pre.map lcv).length = pre.length := List.length_map _
    have hpn : 9 * pre.length ≤ l.length := by
      rw [hpre, List.length_append] at hll
      omega
    rw [hpl] at hcv hj ⊢
    have HJ := hd hj
    have HPRE := hd hpre
    have HSM := hd hsm
    have HB := hd hb
    have hsz := hb.size
    clear hj hpre hb hsm
    by_cases hlt : k < l.length
    · have HDE := hd (fun w' (h : Below w.heap.size w w') => r4_decode _ l (k : Int) w' (HI.out.below h) (by omega))
      rw [decF_at hlt] at HDE
      have HGA := hd (fun he => gap HBY.out hlt HSM.out HPRE.out he)
      have HOK := hd (fun h => locs_ok (byt_drop HBY.out k) k h)
      have HIN := hd (fun h => en_dcd (byt_drop HBY.out k) h)
      obtain ⟨f, q, er, hdd⟩ : ∃ f q er, dcd (l.drop k) = (f, q, er) := ⟨_, _, _, rfl⟩
      rw [hdd] at HDE HGA HOK HIN
      clear hdd
      obtain ⟨fk, ⟨rl, rk, rkey, rval⟩, ⟨pl, pk, pa, pn, pkey⟩, ⟨ec, eb, ef, es⟩⟩ := f
      simp only [dval, fv] at HDE
      go_wp2_with fail
      refine Calls.mono (HDE.out _ HB.out) ?_
      rintro e w1 ⟨rfl, hb1⟩
      have HJ1 := hd (HJ.out.keepAll hb1)
      have HB1 := hd (HB.out.trans (hb1.mono hsz))
      have hs1 := hb1.size
      clear hb1 HDE HJ HB
      by_cases her : er = 0
      · subst her
        have HO1 := hd (HOK.out rfl)
        have hql := (HIN.out rfl).2.2.2.1
        have hq9 : 1 ≤ q := by
          have hm : (k, q, ⟨fk, ⟨rl, rk, rkey, rval⟩, ⟨pl, pk, pa, pn, pkey⟩, ⟨ec, eb, ef, es⟩⟩) ∈ locs k (l.drop k) := by rw [HO1.out]; exact List.mem_cons_self
          have := (locs_mem (byt_drop HBY.out k) k _ hm).2.2.2.1
          simp only at this
          omega
        simp only [List.length_drop] at hql
        have HONE : Hid (∀ u ∈ ([.int .i64 fk, .int .u64 (rl : Int), .int .i64 rk, .string rkey, .string rval, .int .u64 (pl : Int), .int .i64 pk, .int .i64 pa, .int .i64 pn, .string pkey, .int .i64 ec, .int .i64 eb, .int .i64 ef, .int .u32 (es : Int), .int .i64 (k : Int), .int .i64 (q : Int)] : List Value), u.oneCell' = true) := hd (lcv_one (k, q, ⟨fk, ⟨rl, rk, rkey, rval⟩, ⟨pl, pk, pa, pn, pkey⟩, ⟨ec, eb, ef, es⟩⟩))
        clear HGA HOK HIN
        go_wp2_with (at_builtin; refine wpList_append_jr Try.underlying26 info_lc rfl (by decide) _ rfl _ _ rfl w.heap.size (.slice av pre.length cv) (pre.map lcv) (w1.heap.size + 1) 1 [.int .i64 fk, .int .u64 (rl : Int), .int .i64 rk, .string rkey, .string rval, .int .u64 (pl : Int), .int .i64 pk, .int .i64 pa, .int .i64 pn, .string pkey, .int .i64 ec, .int .i64 eb, .int .i64 ef, .int .u32 (es : Int), .int .i64 (k : Int), .int .i64 (q : Int)] rfl rfl ((HJ1.out.alloc _).alloc _) rfl HONE.out (fun j u hu => cell_lit (w1.alloc _) _ _ j u _ (by simp) hu) (pre.length + 1) (by rw [hpl]) (by omega) (by unfold maxLen; omega) (by simp; omega) ?_; intro g3 c3 w3 hj3 hg3 hw3)
        have hb3 := (((HB1.out.alloc (by omega) _).alloc (by simp; omega) _).grown hg3 (by simp; omega) (fun g e => HJ1.out.blk_ge g e))
        go_roundw
        case rel => exact ⟨k + q, pre ++ [(k, q, ⟨fk, ⟨rl, rk, rkey, rval⟩, ⟨pl, pk, pa, pn, pkey⟩, ⟨ec, eb, ef, es⟩⟩)], by omega, by simp only [Int.natCast_add], by rw [List.map_append]; exact hj3, by rw [sml_app, HSM.out, sml_cons, sml_nil]; rfl, by rw [HPRE.out, HO1.out, List.drop_drop, List.append_assoc]; rfl, hb3⟩
        case measure => simp [intOf]; omega
      · have e1 : ((er : Int) != 0) = true := by rw [bne_iff_ne]; omega
        have HNO := hd (HGA.out her)
        clear her
        go_wp2_with fail
        go_ret2
        exact ⟨.inr ⟨HNO.out, rfl⟩, HB1.out.alloc (by omega) _⟩
    · obtain rfl : k = l.length := by omega
      have HL2 : Hid (pre = locs 0 l) := hd (by
        have := HPRE.out
        rw [List.drop_length, locs_nil, List.append_nil] at this
        exact this.symm)
      have HCL : Hid (Cl l) := hd (by unfold Cl; rw [← HL2.out]; exact HSM.out)
      go_wp2_with fail
      go_ret2
      exact ⟨.inl ⟨HCL.out, _, rfl, by rw [← HL2.out]; exact HJ.out⟩, HB.out⟩
end Vt
end Go.Proofs.Ytifjjoobbegpoaa
