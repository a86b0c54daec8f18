/-
  THE WALK OF THE LAW'S written, from any state behind records that were put: all lines are put, their places gathered.
  A FRAME, A RECORD AS AN ARGUMENT: what the form of a call says of its cells.
  RECORDS OF RAW NUMBERS: the theorems' own pick, keyOf, valueOf, recordOf, framed, joined: whatever the numbers, a record that may be.
  RECORDS OF RAW NUMBERS, the same each time: pick, keyOf, valueOf, recordOf answer by their arguments alone.
  WHAT A SCAN FINDS, PLAINLY: the list 'locs' of all frames among some bytes, with their places (every place is asked); from lead byte to lead byte; frames laid down and found again; what is between.
-/
import Derived.Test.YtolddolfpnkndaaGreatXubi
import Derived.Test.YtolddolfpnkndaaGreatXubl
import Derived.Test.YtolddolfpnkndaaGreatXuba
import Derived.Test.YtolddolfpnkndaaGreatXubk
import Derived.Test.YtolddolfpnkndaaGreatXubb
namespace Go.Proofs.YtolddolfpnkndaaGreat
open Go.RowKit Go.Maps Go.Sort
namespace Sg
open Vt Dk
attribute [local go_sem ↓] append_hid
/-- what stands in memory behind k lines -/
structure Gq (rs : Nat → Rec) (sy : Nat → Bool) (ex : Nat → Nat) (c : Nat) (B : Nat) (w : World) (b d : Nat) (X : Ws × Ds) (k : Nat) (v : Value) (wq : World) : Prop where
  own : ∃ O, WK wq b d O (gsat rs sy ex X (c + k)).1 (gsat rs sy ex X (c + k)).2 ∧ (∀ x, O x → B ≤ x) ∧ ∀ g, v.ownBlock = some g → ¬ O g ∧ g ≠ b
  row : JR TPl 3 wq B v ((gpls rs sy ex X c k).map plC)
  bel : Below B w wq
  le : B ≤ b
theorem Gq.bels {rs : Nat → Rec} {sy : Nat → Bool} {ex : Nat → Nat} {c : Nat} {B : Nat} {w : World} {b d : Nat} {X : Ws × Ds} {k : Nat} {v : Value} {wq w' : World} (h : Gq rs sy ex c B w b d X k v wq) (hb : Below wq.heap.size wq w') (hB : B ≤ wq.heap.size) : Gq rs sy ex c B w b d X k v w' := by
  obtain ⟨O, h1, h2, h3⟩ := h.own
  exact ⟨⟨O, h1.below hb, h2, h3⟩, h.row.keepAll hb, h.bel.trans (hb.mono hB), h.le⟩
/-- what a Put, and a Sync if it is asked for, leave of it -/
theorem Gq.put {rs : Nat → Rec} {sy : Nat → Bool} {ex : Nat → Nat} {c : Nat} {B : Nat} {w : World} {b d : Nat} {X : Ws × Ds} {k : Nat} {v : Value} {wq : World} (h : Gq rs sy ex c B w b d X k v wq) {N cp lim evy : Nat} (hr : Rok rs N) (he : ∀ i, ex i ≤ 1) (hcp : 600000 ≤ cp) (hok : Gk cp lim evy (c + k) (gsat rs sy ex X (c + k))) (hk : c + k < N) (hB : B ≤ wq.heap.size) :
    Calls Tryz.prog 9 #[.pointer (some ⟨b, 0, none⟩), .agg (rv (rs (c + k)))] wq fun e w' => e = .returned (.tuple #[.agg #[.int .u32 ((gplc rs (c + k) (gsat rs sy ex X (c + k))).1 : Int), .int .i64 ((gplc rs (c + k) (gsat rs sy ex X (c + k))).2.1 : Int), .int .i64 ((gplc rs (c + k) (gsat rs sy ex X (c + k))).2.2 : Int)], .int .i64 0]) ∧ (∃ O, WK w' b d O (pt (gsat rs sy ex X (c + k)).1 (gsat rs sy ex X (c + k)).2 (gB rs (c + k))).2.1 (pt (gsat rs sy ex X (c + k)).1 (gsat rs sy ex X (c + k)).2 (gB rs (c + k))).2.2 ∧ (∀ x, O x → B ≤ x) ∧ ∀ g, v.ownBlock = some g → ¬ O g ∧ g ≠ b) ∧ JR TPl 3 w' B v ((gpls rs sy ex X c k).map plC) ∧ Below B w w' ∧ B ≤ w'.heap.size := by
  obtain ⟨O, h1, h2, h3⟩ := h.own
  obtain ⟨s1, s2, s3, s4, s5, s6, _⟩ := hok.step (sy := sy) (ex := ex) hr he hcp hk
  have hfl := hr.len _ hk
  have hN := hr.le
  have hop : (gsat rs sy ex X (c + k)).1.op = true := by rcases hok.at_ with ⟨_, q⟩ | ⟨_, _, _, _, q, _⟩ <;> exact q.op
  have hnum : (gsat rs sy ex X (c + k)).1.num ≠ 0 → Nam.Nu (gsat rs sy ex X (c + k)).1.num := by
    rcases hok.at_ with ⟨_, q⟩ | ⟨_, o, c, s, q, q2, _, _⟩
    · intro e; exact absurd q.num e
    · intro _; rw [q.num]; exact ⟨by omega, by omega⟩
  have hun : (gsat rs sy ex X (c + k)).1.uns ≠ 0 → (gsat rs sy ex X (c + k)).1.num ≠ 0 := by
    rcases hok.at_ with ⟨_, q⟩ | ⟨_, o, c, s, q, q2, _, _⟩
    · intro e; exact absurd q.uns e
    · intro _; rw [q.num]; omega
  have hla : (gsat rs sy ex X (c + k)).1.laid < 1000000000 := by
    rcases hok.at_ with ⟨_, q⟩ | ⟨_, o, c, s, q, q2, q3, _⟩
    · rw [q.laid]; omega
    · rw [q.laid]; omega
  refine (put_is wq b d O _ _ (rs (c + k)) h1 hop (by have := hok.acts; omega) hnum hun (hr.wf _ hk) (hr.rf _ hk) hla (by omega) (by have := hok.uns; omega)).mono ?_
  rintro e w' ⟨rfl, O', k1, k2, k3⟩
  have hs1 : (pt (gsat rs sy ex X (c + k)).1 (gsat rs sy ex X (c + k)).2 (en (ofR (rs (c + k))))).1 = 0 := s1
  refine ⟨?_, ⟨O', k1, fun x q => (k3 x q).elim (h2 x) (fun q => Nat.le_trans hB q), fun g hg => ⟨fun q => (k3 g q).elim (h3 g hg).1 (fun q => by have := h.row.blk_lt g hg; omega), (h3 g hg).2⟩⟩, ?_, ?_, Nat.le_trans hB k2.size⟩
  · rw [if_pos hs1, hs1]; rfl
  · exact jr_same h.row fun g hg => k2.block g (h.row.blk_lt g hg) (fun q => q.elim (h3 g hg).1 (h3 g hg).2)
  · exact h.bel.trans (k2.below (fun x q => q.elim (h2 x) (fun e => by rw [e]; exact h.le)) hB)
end Sg
end Go.Proofs.YtolddolfpnkndaaGreat
namespace Go.Proofs.YtolddolfpnkndaaGreat
open Go.ChangeShapes Go.WideShapes Go.ChangeAt Go.RowKit
namespace Vt
end Vt
end Go.Proofs.YtolddolfpnkndaaGreat
namespace Go.Proofs.YtolddolfpnkndaaGreat
open Go.ChangeShapes Go.WideShapes Go.ChangeAt Go.RowKit Go.Shelf
namespace Vt
/-- how long a text is -/
def strLen : Value → Nat
  | .string t => t.size
  | _ => 0
/-- what looks like a frame within a value -/
def forg : Fr := ⟨1, ⟨999999, 1, ⟨#[97]⟩, ⟨#[102, 111, 114, 103, 101, 100]⟩⟩, zp, ze⟩
/-- a record that may be, whatever the numbers; its frame's body is small -/
def MayR (n : Nat) (r : Rec) : Prop := r.lsn = n ∧ (ofR r).Wf ∧ rf (ofR r) = 0 ∧ (bd (ofR r)).length ≤ 700
end Vt
end Go.Proofs.YtolddolfpnkndaaGreat
namespace Go.Proofs.YtolddolfpnkndaaGreat
open Go.ChangeShapes Go.WideShapes Go.ChangeAt Go.RowKit Go.Shelf
namespace Vt
/-- which of n things a raw number speaks of -/
def pkN (z : Int) (n : Nat) : Nat := if z < 0 then ((-(z + 1)).tmod (n : Int)).toNat else (z % (n : Int)).toNat
/-- the longest key, as it grows -/
def kyq : Nat → ByteArray
  | 0 => ⟨#[102]⟩
  | j + 1 => kyq j ++ ⟨#[166]⟩
/-- one of six keys -/
def kyF (k : Nat) : ByteArray :=
  if k = 0 then ⟨#[97]⟩ else if k = 1 then ⟨#[98]⟩ else if k = 2 then ⟨#[99]⟩ else if k = 3 then ⟨#[100]⟩ else if k = 4 then ⟨#[101, 167, 0, 166, 167]⟩ else kyq 63
/-- the value's bytes, as they come -/
def vX (z : Int) (j : Nat) : Nat := pkN (wrap64 (z.tdiv (1 + (j : Int) % 5) + (j : Int) * 31)) 256
def vq (X : Nat → Nat) : Nat → ByteArray
  | 0 => ⟨#[]⟩
  | j + 1 => vq X j ++ str [X j]
def vlF (z : Int) : ByteArray :=
  if pkN z 9 = 8 then vq (vX z) (pkN (z.tdiv 9) 40 * 9) else if pkN z 9 = 6 then vq (vX z) (pkN (z.tdiv 9) 40) ++ str (en forg) else if pkN z 9 = 7 then vq (vX z) (pkN (z.tdiv 9) 40) ++ ⟨#[167, 167, 0, 0]⟩ else vq (vX z) (pkN (z.tdiv 9) 40)
/-- a record of raw numbers -/
def rcQ (k y v : Int) (n : Nat) : Rec := if pkN k 4 = 0 then ⟨n, 2, kyF (pkN y 6), ByteArray.empty⟩ else ⟨n, 1, kyF (pkN y 6), vlF v⟩
end Vt
end Go.Proofs.YtolddolfpnkndaaGreat
namespace Go.Proofs.YtolddolfpnkndaaGreat
namespace Vt
theorem dcd_lead {m : List Nat} (hb : Byt m) (h : (dcd m).2.2 = 0) : m.getD 0 0 = 167 ∧ m ≠ [] := by
  obtain ⟨_, _, e3, e4, e5⟩ := en_dcd hb h
  have hp := en_pos (dcd m).1
  have e := congrArg (fun q => q.getD 0 0) e5
  rw [en_head] at e
  constructor
  · rw [← e, List.getD_eq_getElem?_getD, List.getD_eq_getElem?_getD, List.getElem?_take, if_pos (by omega)]
  · rintro rfl; simp at e4; omega
/-- within a frame there is no lead byte -/
theorem dcd_in {m : List Nat} (hb : Byt m) (h : (dcd m).2.2 = 0) {j : Nat} (h1 : 1 ≤ j) (h2 : j < (dcd m).2.1) : m.getD j 0 ≠ 167 := by
  obtain ⟨_, _, e3, e4, e5⟩ := en_dcd hb h
  have e := congrArg (fun q => q.getD j 0) e5
  have h3 := en_no (f := (dcd m).1) (j := j) h1 (by omega)
  rw [← e, List.getD_eq_getElem?_getD, List.getElem?_take, if_pos h2, ← List.getD_eq_getElem?_getD] at h3
  exact h3
theorem getD_drop0 (l : List Nat) (i : Nat) : (l.drop i).getD 0 0 = l.getD i 0 := by
  rw [List.getD_eq_getElem?_getD, List.getD_eq_getElem?_getD, List.getElem?_drop, Nat.add_zero]
/-- a frame's place, its length, the frame -/
abbrev Lc := Nat × Nat × Fr
open Classical in
/-- all frames of the bytes l, the first of which stands at at_: every place is asked -/
noncomputable def locs (at_ : Nat) : List Nat → List Lc
  | [] => []
  | x :: r => if (dcd (x :: r)).2.2 = 0 then (at_, (dcd (x :: r)).2.1, (dcd (x :: r)).1) :: locs (at_ + 1) r else locs (at_ + 1) r
theorem locs_nil (at_ : Nat) : locs at_ [] = [] := rfl
theorem locs_err {at_ : Nat} {l : List Nat} (h : (dcd l).2.2 ≠ 0) : locs at_ l = locs (at_ + 1) (l.drop 1) := by
  cases l with
  | nil => rfl
  | cons x r => rw [locs, if_neg h]; rfl
theorem locs_skip (j : Nat) : ∀ (at_ : Nat) (l : List Nat), (∀ i, i < j → (dcd (l.drop i)).2.2 ≠ 0) → locs at_ l = locs (at_ + j) (l.drop j) := by
  induction j with
  | zero => intro at_ l _; rw [List.drop_zero, Nat.add_zero]
  | succ j ih =>
    intro at_ l h
    have h0 := h 0 (by omega)
    rw [List.drop_zero] at h0
    rw [locs_err h0, ih (at_ + 1) (l.drop 1) (fun i hi => by rw [List.drop_drop]; have := h (1 + i) (by omega); exact this), List.drop_drop]
    rw [show at_ + 1 + j = at_ + (j + 1) by omega, show 1 + j = j + 1 by omega]
theorem nx_lt {l : List Nat} {i : Nat} (h : i < nx l) : l.getD i 0 ≠ 167 := by
  have hl := nx_le l
  have h2 := List.not_of_lt_findIdx h
  rw [List.getD_eq_getElem?_getD, List.getElem?_eq_getElem (by omega)]
  simpa using h2
theorem locs_next {l : List Nat} (hb : Byt l) (at_ : Nat) : locs at_ l = locs (at_ + nx l) (l.drop (nx l)) := by
  refine locs_skip _ _ _ fun i hi h => ?_
  have h1 := (dcd_lead (byt_drop hb i) h).1
  rw [getD_drop0] at h1
  exact nx_lt hi h1
theorem locs_ok {l : List Nat} (hb : Byt l) (at_ : Nat) (h : (dcd l).2.2 = 0) : locs at_ l = (at_, (dcd l).2.1, (dcd l).1) :: locs (at_ + (dcd l).2.1) (l.drop (dcd l).2.1) := by
  obtain ⟨_, _, e3, e4, e5⟩ := en_dcd hb h
  have hp := en_pos (dcd l).1
  cases l with
  | nil => simp at e4; omega
  | cons x r =>
    rw [locs, if_pos h]
    congr 1
    have := locs_skip ((dcd (x :: r)).2.1 - 1) (at_ + 1) r (fun i hi hc => by
      have h1 := (dcd_lead (byt_drop (l := r) (fun y hy => hb y (List.mem_cons_of_mem _ hy)) i) hc).1
      rw [getD_drop0] at h1
      have h2 := dcd_in hb h (j := i + 1) (by omega) (by omega)
      rw [List.getD_cons_succ] at h2
      exact h2 h1)
    rw [this, show at_ + 1 + ((dcd (x :: r)).2.1 - 1) = at_ + (dcd (x :: r)).2.1 by omega]
    congr 1
    obtain ⟨m, hm⟩ : ∃ m, (dcd (x :: r)).2.1 = m + 1 := ⟨(dcd (x :: r)).2.1 - 1, by omega⟩
    rw [hm, List.drop_succ_cons, Nat.add_sub_cancel]
/-- what is laid down is found -/
theorem locs_en {f : Fr} (hw : f.Wf) (h : rf f = 0) {r : List Nat} (hb : Byt (en f ++ r)) (at_ : Nat) : locs at_ (en f ++ r) = (at_, (en f).length, f) :: locs (at_ + (en f).length) r := by
  have e := dcd_en hw h r
  have := locs_ok hb at_ (by rw [e])
  rw [this, e]
  simp only
  rw [List.drop_left' rfl]
/-- a found frame stands in the bytes -/
theorem locs_mem {l : List Nat} (hb : Byt l) : ∀ (at_ : Nat) (x : Lc), x ∈ locs at_ l → at_ ≤ x.1 ∧ x.1 + x.2.1 ≤ at_ + l.length ∧ dcd (l.drop (x.1 - at_)) = (x.2.2, x.2.1, 0) ∧ 9 ≤ x.2.1 ∧ rf x.2.2 = 0 ∧ x.2.2.Wf := by
  induction l with
  | nil => intro at_ x hx; rw [locs] at hx; cases hx
  | cons y r ih =>
    intro at_ x hx
    have hbr : Byt r := fun z hz => hb z (List.mem_cons_of_mem _ hz)
    have go : x ∈ locs (at_ + 1) r → at_ ≤ x.1 ∧ x.1 + x.2.1 ≤ at_ + (y :: r).length ∧ dcd ((y :: r).drop (x.1 - at_)) = (x.2.2, x.2.1, 0) ∧ 9 ≤ x.2.1 ∧ rf x.2.2 = 0 ∧ x.2.2.Wf := by
      intro hx
      obtain ⟨h1, h2, h3, h4⟩ := ih hbr (at_ + 1) x hx
      refine ⟨by omega, by rw [List.length_cons]; omega, ?_, h4⟩
      rw [show x.1 - at_ = (x.1 - (at_ + 1)) + 1 by omega, List.drop_succ_cons]; exact h3
    rw [locs] at hx
    split at hx
    · rename_i h
      rcases List.mem_cons.1 hx with rfl | hx
      · obtain ⟨e1, e2, e3, e4, e5⟩ := en_dcd hb h
        have hp := en_pos (dcd (y :: r)).1
        refine ⟨Nat.le_refl _, by simp only; omega, ?_, by simp only; omega, e1, e2⟩
        simp only
        rw [Nat.sub_self, List.drop_zero]
        exact Prod.ext rfl (Prod.ext rfl h)
      · exact go hx
    · exact go hx
/-- an extent: junk or not, the place, the length -/
abbrev Ex := Bool × Int × Int
/-- a run of junk, unless it is empty -/
def jk1 (a b : Nat) : List Ex := if a = b then [] else [(true, (a : Int), (b : Int) - (a : Int))]
/-- one more frame -/
def exS (s : List Ex × Nat) (x : Lc) : List Ex × Nat := (s.1 ++ jk1 s.2 x.1 ++ [(false, (x.1 : Int), (x.2.1 : Int))], x.1 + x.2.1)
def exF (pre : List Lc) : List Ex × Nat := pre.foldl exS ([], 0)
/-- the extents of some bytes -/
noncomputable def exts (l : List Nat) : List Ex := (exF (locs 0 l)).1 ++ jk1 (exF (locs 0 l)).2 l.length
/-- the extents from a place on -/
def exR : Nat → List Lc → Nat → List Ex
  | e, [], N => jk1 e N
  | e, x :: r, N => jk1 e x.1 ++ (false, (x.1 : Int), (x.2.1 : Int)) :: exR (x.1 + x.2.1) r N
/-- the frames alone -/
def cln (l : List Nat) (pre : List Lc) : List Nat := (pre.map fun x => (l.drop x.1).take x.2.1).flatten
theorem locs_len {l : List Nat} (hb : Byt l) : ∀ n, l.length ≤ n → ∀ at_, 9 * (locs at_ l).length ≤ l.length := by
  intro n
  induction n generalizing l with
  | zero =>
    intro h at_
    obtain rfl : l = [] := List.length_eq_zero_iff.1 (by omega)
    simp [locs]
  | succ n ih =>
    intro h at_
    by_cases hne : l = []
    · subst hne; simp [locs]
    · have hlen : 1 ≤ l.length := by cases l with
        | nil => exact absurd rfl hne
        | cons x r => simp
      by_cases he : (dcd l).2.2 = 0
      · obtain ⟨_, _, e3, e4, _⟩ := en_dcd hb he
        have hp := en_pos (dcd l).1
        rw [locs_ok hb at_ he, List.length_cons]
        have := ih (l := l.drop (dcd l).2.1) (byt_drop hb _) (by rw [List.length_drop]; omega) (at_ + (dcd l).2.1)
        rw [List.length_drop] at this
        omega
      · rw [locs_err he]
        have := ih (l := l.drop 1) (byt_drop hb _) (by rw [List.length_drop]; omega) (at_ + 1)
        rw [List.length_drop] at this
        omega
end Vt
end Go.Proofs.YtolddolfpnkndaaGreat
