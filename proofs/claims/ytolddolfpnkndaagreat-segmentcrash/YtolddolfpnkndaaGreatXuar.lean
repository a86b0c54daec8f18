/-
  FRAMES, PLAINLY: what a frame has, why it may not be, its body, how a body is taken apart. No program here.
  THE WALKS OF frame.Of, mayBeKey, mostValue, onDisk, recordRefusal, pointerRefusal, endingRefusal, refusal: what 'rf' says.
  THE WALKS OF frame.pointerRefusal, endingRefusal, refusal: what 'rf' says.
  bits.Len64 at this program: the library's contract, laid at this program's numbers; and the small arithmetic of 64 bits that the walks of package vint want.
  THE WALKS OF the law's 'same' (are two lists of bytes the same?) and of vint's 'ended', 'Size'.
-/
import Derived.Test.YtolddolfpnkndaaGreatXuaa
import Derived.Test.YtolddolfpnkndaaGreatXuaq
import Derived.Test.YtolddolfpnkndaaGreatXuaj
import Derived.Laws.StructEq
import Derived.Shelf.Strconv.Itoa0
import Derived.Deep.QuietTactic
import Derived.BigQuiet
import Derived.Deep.RegionWith
import Derived.OwnWalk
namespace Go.Proofs.YtolddolfpnkndaaGreat
namespace Vt
structure Rec where
  lsn : Nat
  kind : Int
  key : ByteArray
  val : ByteArray
structure Ptr where
  lsn : Nat
  kind : Int
  at_ : Int
  len : Int
  key : ByteArray
structure Edg where
  count : Int
  bytes : Int
  frames : Int
  sum : Nat
structure Fr where
  kind : Int
  r : Rec
  p : Ptr
  e : Edg
def zr : Rec := ⟨0, 0, ByteArray.empty, ByteArray.empty⟩
def zp : Ptr := ⟨0, 0, 0, 0, ByteArray.empty⟩
def ze : Edg := ⟨0, 0, 0, 0⟩
def zf : Fr := ⟨0, zr, zp, ze⟩
/-- as the types have it -/
def Fr.Wf (f : Fr) : Prop := f.r.lsn < 18446744073709551616 ∧ f.p.lsn < 18446744073709551616 ∧ f.e.sum < 4294967296
def ofR (r : Rec) : Fr := ⟨r.kind, r, zp, ze⟩
def mayKey (s : ByteArray) : Prop := 1 ≤ s.size ∧ s.size ≤ 64
def onD (n : Int) : Prop := 0 ≤ n ∧ n ≤ 4194304
open Classical in
noncomputable def rfR (f : Fr) : Nat := if f.r.kind ≠ f.kind then 46 else if f.r.lsn = 0 then 47 else if ¬ mayKey f.r.key then 48 else if (if f.r.kind = 2 then 0 else 2048) < f.r.val.size then 49 else if f ≠ ofR f.r then 40 else 0
open Classical in
noncomputable def rfP (f : Fr) : Nat := if f.p.kind ≠ 1 ∧ f.p.kind ≠ 2 then 46 else if f.p.lsn = 0 then 47 else if ¬ mayKey f.p.key then 48 else if ¬ onD f.p.at_ ∨ ¬ onD f.p.len ∨ f.p.len = 0 then 40 else if f ≠ ⟨3, zr, f.p, ze⟩ then 40 else 0
open Classical in
noncomputable def rfE (f : Fr) : Nat := if ¬ onD f.e.count ∨ ¬ onD f.e.bytes ∨ ¬ onD f.e.frames then 40 else if f ≠ ⟨4, zr, zp, f.e⟩ then 40 else 0
/-- why a frame may not be -/
noncomputable def rf (f : Fr) : Nat := if f.kind = 1 ∨ f.kind = 2 then rfR f else if f.kind = 3 then rfP f else if f.kind = 4 then rfE f else 46
theorem rfR_ok {f : Fr} (h : rfR f = 0) : f.r.kind = f.kind ∧ f.r.lsn ≠ 0 ∧ mayKey f.r.key ∧ f.r.val.size ≤ (if f.r.kind = 2 then 0 else 2048) ∧ f = ofR f.r := by
  unfold rfR at h
  by_cases a : f.r.kind ≠ f.kind
  · rw [if_pos a] at h; omega
  · rw [if_neg a] at h
    by_cases b : f.r.lsn = 0
    · rw [if_pos b] at h; omega
    · rw [if_neg b] at h
      by_cases c : ¬ mayKey f.r.key
      · rw [if_pos c] at h; omega
      · rw [if_neg c] at h
        by_cases d : (if f.r.kind = 2 then 0 else 2048) < f.r.val.size
        · rw [if_pos d] at h; omega
        · rw [if_neg d] at h
          by_cases e : f ≠ ofR f.r
          · rw [if_pos e] at h; omega
          · exact ⟨Classical.not_not.1 a, b, Classical.not_not.1 c, Nat.le_of_not_lt d, Classical.not_not.1 e⟩
theorem rfP_ok {f : Fr} (h : rfP f = 0) : (f.p.kind = 1 ∨ f.p.kind = 2) ∧ f.p.lsn ≠ 0 ∧ mayKey f.p.key ∧ onD f.p.at_ ∧ onD f.p.len ∧ f.p.len ≠ 0 ∧ f = ⟨3, zr, f.p, ze⟩ := by
  unfold rfP at h
  split at h
  · omega
  · split at h
    · omega
    · split at h
      · omega
      · split at h
        · omega
        · split at h
          · omega
          · rename_i a b c d e
            refine ⟨by omega, b, Classical.not_not.1 c, ?_, ?_, ?_, Classical.not_not.1 e⟩
            · exact Classical.byContradiction fun q => d (.inl q)
            · exact Classical.byContradiction fun q => d (.inr (.inl q))
            · exact fun q => d (.inr (.inr q))
theorem rfE_ok {f : Fr} (h : rfE f = 0) : onD f.e.count ∧ onD f.e.bytes ∧ onD f.e.frames ∧ f = ⟨4, zr, zp, f.e⟩ := by
  unfold rfE at h
  split at h
  · omega
  · split at h
    · omega
    · rename_i d e
      refine ⟨?_, ?_, ?_, Classical.not_not.1 e⟩
      · exact Classical.byContradiction fun q => d (.inl q)
      · exact Classical.byContradiction fun q => d (.inr (.inl q))
      · exact Classical.byContradiction fun q => d (.inr (.inr q))
/-- the varints of all numbers, one behind the other -/
def vs (l : List Nat) : List Nat := (l.map vrt).flatten
/-- a body, in its parts -/
def bp (f : Fr) : List (List Nat) :=
  if f.kind = 1 then [[1], vs [f.r.lsn, f.r.key.size], bl f.r.key, bl f.r.val]
  else if f.kind = 2 then [[2], vs [f.r.lsn], bl f.r.key]
  else if f.kind = 3 then [[3], vs [f.p.lsn], [f.p.kind.toNat], vs [f.p.at_.toNat, f.p.len.toNat], bl f.p.key]
  else [[4], vs [f.e.count.toNat, f.e.bytes.toNat, f.e.frames.toNat, f.e.sum]]
def bd (f : Fr) : List Nat := (bp f).flatten
abbrev RS := List Nat × Bool
def rNum (m : Nat) (s : RS) : Nat × RS := if (dec s.1).2.2 = 0 ∧ (dec s.1).1 ≤ m then ((dec s.1).1, (s.1.drop (dec s.1).2.1, s.2)) else (0, (s.1, true))
def rKind (s : RS) : Nat × RS := if s.1 = [] then (0, (s.1, true)) else (s.1.getD 0 0, (s.1.drop 1, s.2))
def rText (c : Nat) (s : RS) : ByteArray × RS := if s.1.length < c then (ByteArray.empty, (s.1, true)) else (str (s.1.take c), (s.1.drop c, s.2))
def rRest (s : RS) : ByteArray × RS := rText s.1.length s
def rPtr (s : RS) : Ptr × RS :=
  let a := rNum 18446744073709551615 s
  let k := rKind a.2
  let b := rNum 4194304 k.2
  let c := rNum 4194304 b.2
  let t := rRest c.2
  (⟨a.1, (k.1 : Int), (b.1 : Int), (c.1 : Int), t.1⟩, t.2)
def rEdg (s : RS) : Edg × RS :=
  let a := rNum 4194304 s
  let b := rNum 4194304 a.2
  let c := rNum 4194304 b.2
  let d := rNum 4294967295 c.2
  (⟨(a.1 : Int), (b.1 : Int), (c.1 : Int), d.1⟩, d.2)
def rPut (s : RS) : Rec × RS :=
  let a := rNum 18446744073709551615 s
  let c := rNum 64 a.2
  let t := rText c.1 c.2
  let v := rRest t.2
  (⟨a.1, 1, t.1, v.1⟩, v.2)
def rDel (s : RS) : Rec × RS :=
  let a := rNum 18446744073709551615 s
  let t := rRest a.2
  (⟨a.1, 2, t.1, ByteArray.empty⟩, t.2)
/-- a body taken apart -/
def prs (s : RS) : Fr × RS :=
  let k := rKind s
  if k.1 = 1 then (⟨1, (rPut k.2).1, zp, ze⟩, (rPut k.2).2)
  else if k.1 = 2 then (⟨2, (rDel k.2).1, zp, ze⟩, (rDel k.2).2)
  else if k.1 = 3 then (⟨3, zr, (rPtr k.2).1, ze⟩, (rPtr k.2).2)
  else if k.1 = 4 then (⟨4, zr, zp, (rEdg k.2).1⟩, (rEdg k.2).2)
  else (⟨(k.1 : Int), zr, zp, ze⟩, k.2)
theorem rNum_vrt {n m : Nat} (h : n < 18446744073709551616) (hm : n ≤ m) (r : List Nat) (b : Bool) : rNum m (vrt n ++ r, b) = (n, (r, b)) := by
  unfold rNum
  rw [dec_vrt h, if_pos ⟨rfl, hm⟩]
  simp
theorem rNum_ok {m : Nat} {s : RS} (hb : Byt s.1) (h : (rNum m s).2.2 = false) : s.2 = false ∧ s.1 = vrt (rNum m s).1 ++ (rNum m s).2.1 ∧ (rNum m s).1 ≤ m ∧ (rNum m s).1 < 18446744073709551616 ∧ Byt (rNum m s).2.1 := by
  unfold rNum at h ⊢
  split at h
  · rename_i hc
    rw [if_pos hc]
    obtain ⟨h1, h2, h3, h4, h5, h6⟩ := dec_ok (l := s.1) (n := (dec s.1).1) (k := (dec s.1).2.1) hb (by rw [← hc.1])
    exact ⟨h, by simp only [h1]; rw [List.take_append_drop], hc.2, h5, byt_drop hb _⟩
  · simp at h
theorem rKind_ok {s : RS} (hb : Byt s.1) (h : (rKind s).2.2 = false) : s.2 = false ∧ s.1 = (rKind s).1 :: (rKind s).2.1 ∧ (rKind s).1 < 256 ∧ Byt (rKind s).2.1 := by
  unfold rKind at h ⊢
  split at h
  · simp at h
  · rename_i hc
    rw [if_neg hc]
    obtain ⟨l, b⟩ := s
    cases l with
    | nil => simp at hc
    | cons x t => exact ⟨h, rfl, hb x List.mem_cons_self, fun y hy => hb y (List.mem_cons_of_mem _ hy)⟩
theorem rText_ok {c : Nat} {s : RS} (hb : Byt s.1) (h : (rText c s).2.2 = false) : s.2 = false ∧ s.1 = bl (rText c s).1 ++ (rText c s).2.1 ∧ (rText c s).1.size = c ∧ Byt (rText c s).2.1 := by
  unfold rText at h ⊢
  split at h
  · simp at h
  · rename_i hc
    rw [if_neg hc]
    refine ⟨h, ?_, ?_, byt_drop hb _⟩
    · simp only [bl_str (byt_take hb c)]; rw [List.take_append_drop]
    · simp only [str_size (byt_take hb c)]; rw [List.length_take]; omega
theorem rRest_ok {s : RS} (hb : Byt s.1) (h : (rRest s).2.2 = false) : s.2 = false ∧ s.1 = bl (rRest s).1 ∧ (rRest s).2.1 = [] := by
  obtain ⟨h1, h2, _, _⟩ := rText_ok hb h
  have h3 : (rRest s).2.1 = [] := by unfold rRest rText; rw [if_neg (by omega)]; simp
  refine ⟨h1, ?_, h3⟩
  unfold rRest at h3 ⊢
  rw [h3, List.append_nil] at h2
  exact h2
theorem rText_bl (s : ByteArray) (r : List Nat) (b : Bool) : rText s.size (bl s ++ r, b) = (s, (r, b)) := by
  unfold rText
  rw [if_neg (by rw [List.length_append, bl_len]; omega)]
  simp only
  rw [← bl_len s, List.take_left, List.drop_left, str_bl]
theorem rRest_bl (s : ByteArray) (b : Bool) : rRest (bl s, b) = (s, ([], b)) := by
  have := rText_bl s [] b
  rw [List.append_nil] at this
  unfold rRest
  simp only
  rw [bl_len]; exact this
theorem rKind_cons (x : Nat) (r : List Nat) (b : Bool) : rKind (x :: r, b) = (x, (r, b)) := by unfold rKind; rw [if_neg (by simp)]; rfl
/-- what was written is read -/
theorem prs_bd {f : Fr} (hw : f.Wf) (h : rf f = 0) : prs (bd f, false) = (f, ([], false)) := by
  obtain ⟨w1, w2, w3⟩ := hw
  unfold rf at h
  by_cases c12 : f.kind = 1 ∨ f.kind = 2
  · rw [if_pos c12] at h
    obtain ⟨h1, h2, h3, h4, h5⟩ := rfR_ok h
    obtain ⟨k, ⟨lsn, rk, key, val⟩, p, e⟩ := f
    unfold ofR at h5
    injection h5 with e1 e2 e3 e4
    simp only at *
    subst e3 e4
    rcases c12 with rfl | rfl
    · subst h1
      have hb : bd ⟨1, ⟨lsn, 1, key, val⟩, zp, ze⟩ = 1 :: (vrt lsn ++ (vrt key.size ++ (bl key ++ bl val))) := by
        unfold bd bp; rw [if_pos rfl]
        simp [vs]
      rw [hb]
      unfold prs
      rw [rKind_cons]
      simp only [if_pos]
      unfold rPut
      rw [rNum_vrt w1 (by omega)]
      simp only
      rw [rNum_vrt (by have := h3.2; omega) h3.2]
      simp only
      rw [rText_bl]
      simp only
      rw [rRest_bl]
    · subst h1
      rw [if_pos rfl] at h4
      have hv : val = ByteArray.empty := by
        refine bl_inj (List.length_eq_zero_iff.1 ?_)
        rw [bl_len]; omega
      subst hv
      have hb : bd ⟨2, ⟨lsn, 2, key, ByteArray.empty⟩, zp, ze⟩ = 2 :: (vrt lsn ++ bl key) := by
        unfold bd bp; rw [if_neg (by simp), if_pos rfl]
        simp [vs]
      rw [hb]
      unfold prs
      rw [rKind_cons]
      simp only [if_neg (show ¬ (2 = 1) by omega), if_pos]
      unfold rDel
      rw [rNum_vrt w1 (by omega)]
      simp only
      rw [rRest_bl]
  · rw [if_neg c12] at h
    by_cases c3 : f.kind = 3
    · rw [if_pos c3] at h
      obtain ⟨h1, h2, h3, h4, h5, h6, h7⟩ := rfP_ok h
      obtain ⟨k, r, ⟨lsn, pk, at_, len, key⟩, e⟩ := f
      injection h7 with e1 e2 e3 e4
      simp only at *
      subst e1 e2 e4
      obtain ⟨a, rfl⟩ : ∃ a : Nat, at_ = (a : Int) := ⟨at_.toNat, by have := h4.1; omega⟩
      obtain ⟨n, rfl⟩ : ∃ n : Nat, len = (n : Int) := ⟨len.toNat, by have := h5.1; omega⟩
      obtain ⟨q, rfl⟩ : ∃ q : Nat, pk = (q : Int) := ⟨pk.toNat, by omega⟩
      have hb : bd ⟨3, zr, ⟨lsn, (q : Int), (a : Int), (n : Int), key⟩, ze⟩ = 3 :: (vrt lsn ++ (q :: (vrt a ++ (vrt n ++ bl key)))) := by
        unfold bd bp; rw [if_neg (by simp), if_neg (by simp), if_pos rfl]
        simp [vs]
      rw [hb]
      unfold prs
      rw [rKind_cons]
      simp only [if_neg (show ¬ (3 = 1) by omega), if_neg (show ¬ (3 = 2) by omega), if_pos]
      unfold rPtr
      rw [rNum_vrt w2 (by omega)]
      simp only
      rw [rKind_cons]
      simp only
      rw [rNum_vrt (by have := h4.2; omega) (by have := h4.2; omega)]
      simp only
      rw [rNum_vrt (by have := h5.2; omega) (by have := h5.2; omega)]
      simp only
      rw [rRest_bl]
    · rw [if_neg c3] at h
      by_cases c4 : f.kind = 4
      · rw [if_pos c4] at h
        obtain ⟨h1, h2, h3, h4⟩ := rfE_ok h
        obtain ⟨k, r, p, ⟨ct, by_, fr, sm⟩⟩ := f
        injection h4 with e1 e2 e3 e4
        simp only at *
        subst e1 e2 e3
        obtain ⟨a, rfl⟩ : ∃ a : Nat, ct = (a : Int) := ⟨ct.toNat, by have := h1.1; omega⟩
        obtain ⟨n, rfl⟩ : ∃ n : Nat, by_ = (n : Int) := ⟨by_.toNat, by have := h2.1; omega⟩
        obtain ⟨q, rfl⟩ : ∃ q : Nat, fr = (q : Int) := ⟨fr.toNat, by have := h3.1; omega⟩
        have hb : bd ⟨4, zr, zp, ⟨(a : Int), (n : Int), (q : Int), sm⟩⟩ = 4 :: (vrt a ++ (vrt n ++ (vrt q ++ (vrt sm ++ [])))) := by
          unfold bd bp; rw [if_neg (by simp), if_neg (by simp), if_neg (by simp)]
          simp [vs]
        rw [hb]
        unfold prs
        rw [rKind_cons]
        simp only [if_neg (show ¬ (4 = 1) by omega), if_neg (show ¬ (4 = 2) by omega), if_neg (show ¬ (4 = 3) by omega), if_pos]
        unfold rEdg
        rw [rNum_vrt (by have := h1.2; omega) (by have := h1.2; omega)]
        simp only
        rw [rNum_vrt (by have := h2.2; omega) (by have := h2.2; omega)]
        simp only
        rw [rNum_vrt (by have := h3.2; omega) (by have := h3.2; omega)]
        simp only
        rw [rNum_vrt (by omega) (by omega)]
      · rw [if_neg c4] at h; omega
theorem rNum_byt (m : Nat) {s : RS} (hb : Byt s.1) : Byt (rNum m s).2.1 := by
  unfold rNum; split
  · exact byt_drop hb _
  · exact hb
theorem rKind_byt {s : RS} (hb : Byt s.1) : Byt (rKind s).2.1 := by
  unfold rKind; split
  · exact hb
  · exact byt_drop hb _
theorem rText_byt (c : Nat) {s : RS} (hb : Byt s.1) : Byt (rText c s).2.1 := by
  unfold rText; split
  · exact hb
  · exact byt_drop hb _
theorem rPut_ok {s : RS} (hb : Byt s.1) (h : (rPut s).2.2 = false) : s.2 = false ∧ (rPut s).2.1 = [] ∧ (rPut s).1.kind = 1 ∧ s.1 = vrt (rPut s).1.lsn ++ (vrt (rPut s).1.key.size ++ (bl (rPut s).1.key ++ bl (rPut s).1.val)) ∧ (rPut s).1.lsn < 18446744073709551616 := by
  unfold rPut at h ⊢
  simp only at h ⊢
  have b1 := rNum_byt 18446744073709551615 hb
  have b2 := rNum_byt 64 b1
  have b3 := rText_byt (rNum 64 (rNum 18446744073709551615 s).2).1 b2
  obtain ⟨d1, d2, d3⟩ := rRest_ok b3 h
  obtain ⟨c1, c2, c3, _⟩ := rText_ok b2 d1
  obtain ⟨q1, q2, _⟩ := rNum_ok b1 c1
  obtain ⟨p1, p2, p3, p4, _⟩ := rNum_ok hb q1
  refine ⟨p1, d3, trivial, ?_, p4⟩
  rw [← d2, c3, ← c2, ← q2, ← p2]
theorem rDel_ok {s : RS} (hb : Byt s.1) (h : (rDel s).2.2 = false) : s.2 = false ∧ (rDel s).2.1 = [] ∧ (rDel s).1.kind = 2 ∧ (rDel s).1.val = ByteArray.empty ∧ s.1 = vrt (rDel s).1.lsn ++ bl (rDel s).1.key ∧ (rDel s).1.lsn < 18446744073709551616 := by
  unfold rDel at h ⊢
  simp only at h ⊢
  have b1 := rNum_byt 18446744073709551615 hb
  obtain ⟨d1, d2, d3⟩ := rRest_ok b1 h
  obtain ⟨p1, p2, p3, p4, _⟩ := rNum_ok hb d1
  refine ⟨p1, d3, trivial, trivial, ?_, p4⟩
  rw [← d2, ← p2]
theorem rPtr_ok {s : RS} (hb : Byt s.1) (h : (rPtr s).2.2 = false) : s.2 = false ∧ (rPtr s).2.1 = [] ∧ s.1 = vrt (rPtr s).1.lsn ++ ((rPtr s).1.kind.toNat :: (vrt (rPtr s).1.at_.toNat ++ (vrt (rPtr s).1.len.toNat ++ bl (rPtr s).1.key))) ∧ (rPtr s).1.lsn < 18446744073709551616 := by
  unfold rPtr at h ⊢
  simp only [Int.toNat_natCast] at h ⊢
  have b1 := rNum_byt 18446744073709551615 hb
  have b2 := rKind_byt b1
  have b3 := rNum_byt 4194304 b2
  have b4 := rNum_byt 4194304 b3
  obtain ⟨d1, d2, d3⟩ := rRest_ok b4 h
  obtain ⟨c1, c2, _⟩ := rNum_ok b3 d1
  obtain ⟨e1, e2, _⟩ := rNum_ok b2 c1
  obtain ⟨q1, q2, _⟩ := rKind_ok b1 e1
  obtain ⟨p1, p2, p3, p4, _⟩ := rNum_ok hb q1
  refine ⟨p1, d3, ?_, p4⟩
  rw [← d2, ← c2, ← e2, ← q2, ← p2]
theorem rEdg_ok {s : RS} (hb : Byt s.1) (h : (rEdg s).2.2 = false) : s.2 = false ∧ s.1 = vrt (rEdg s).1.count.toNat ++ (vrt (rEdg s).1.bytes.toNat ++ (vrt (rEdg s).1.frames.toNat ++ (vrt (rEdg s).1.sum ++ (rEdg s).2.1))) ∧ (rEdg s).1.sum < 4294967296 := by
  unfold rEdg at h ⊢
  simp only [Int.toNat_natCast] at h ⊢
  have b1 := rNum_byt 4194304 hb
  have b2 := rNum_byt 4194304 b1
  have b3 := rNum_byt 4194304 b2
  obtain ⟨d1, d2, d3, _⟩ := rNum_ok b3 h
  obtain ⟨c1, c2, _⟩ := rNum_ok b2 d1
  obtain ⟨q1, q2, _⟩ := rNum_ok b1 c1
  obtain ⟨p1, p2, p3, p4, _⟩ := rNum_ok hb q1
  refine ⟨p1, ?_, by omega⟩
  rw [← d2, ← c2, ← q2, ← p2]
theorem prs_1 {s : RS} (h : (rKind s).1 = 1) : prs s = (⟨1, (rPut (rKind s).2).1, zp, ze⟩, (rPut (rKind s).2).2) := by unfold prs; simp only; rw [if_pos h]
theorem prs_2 {s : RS} (h : (rKind s).1 = 2) : prs s = (⟨2, (rDel (rKind s).2).1, zp, ze⟩, (rDel (rKind s).2).2) := by unfold prs; simp only; rw [if_neg (by omega), if_pos h]
theorem prs_3 {s : RS} (h : (rKind s).1 = 3) : prs s = (⟨3, zr, (rPtr (rKind s).2).1, ze⟩, (rPtr (rKind s).2).2) := by unfold prs; simp only; rw [if_neg (by omega), if_neg (by omega), if_pos h]
theorem prs_4 {s : RS} (h : (rKind s).1 = 4) : prs s = (⟨4, zr, zp, (rEdg (rKind s).2).1⟩, (rEdg (rKind s).2).2) := by unfold prs; simp only; rw [if_neg (by omega), if_neg (by omega), if_neg (by omega), if_pos h]
theorem prs_5 {s : RS} (h1 : (rKind s).1 ≠ 1) (h2 : (rKind s).1 ≠ 2) (h3 : (rKind s).1 ≠ 3) (h4 : (rKind s).1 ≠ 4) : prs s = (⟨((rKind s).1 : Int), zr, zp, ze⟩, (rKind s).2) := by unfold prs; simp only; rw [if_neg h1, if_neg h2, if_neg h3, if_neg h4]
/-- what is read is what would be written -/
theorem bd_prs {l : List Nat} (hb : Byt l) (h : rf (prs (l, false)).1 = 0) (hl : (prs (l, false)).2.1 = []) (hr : (prs (l, false)).2.2 = false) : bd (prs (l, false)).1 = l ∧ (prs (l, false)).1.Wf := by
  have bk := rKind_byt (s := (l, false)) hb
  by_cases c1 : (rKind (l, false)).1 = 1
  · rw [prs_1 c1] at hl hr ⊢
    simp only at hl hr ⊢
    obtain ⟨p1, p2, p3, p4, p5⟩ := rPut_ok bk hr
    obtain ⟨_, q2, _⟩ := rKind_ok (s := (l, false)) hb p1
    simp only at q2
    refine ⟨?_, p5, (by show 0 < 18446744073709551616; omega), (by show 0 < 4294967296; omega)⟩
    refine Eq.trans ?_ q2.symm
    rw [p4, c1]
    unfold bd bp; rw [if_pos rfl]
    simp [vs]
  · by_cases c2 : (rKind (l, false)).1 = 2
    · rw [prs_2 c2] at hl hr ⊢
      simp only at hl hr ⊢
      obtain ⟨p1, p2, p3, _, p4, p5⟩ := rDel_ok bk hr
      obtain ⟨_, q2, _⟩ := rKind_ok (s := (l, false)) hb p1
      simp only at q2
      refine ⟨?_, p5, (by show 0 < 18446744073709551616; omega), (by show 0 < 4294967296; omega)⟩
      refine Eq.trans ?_ q2.symm
      rw [p4, c2]
      unfold bd bp; rw [if_neg (by simp), if_pos rfl]
      simp [vs]
    · by_cases c3 : (rKind (l, false)).1 = 3
      · rw [prs_3 c3] at hl hr ⊢
        simp only at hl hr ⊢
        obtain ⟨p1, p2, p4, p5⟩ := rPtr_ok bk hr
        obtain ⟨_, q2, _⟩ := rKind_ok (s := (l, false)) hb p1
        simp only at q2
        refine ⟨?_, (by show 0 < 18446744073709551616; omega), p5, (by show 0 < 4294967296; omega)⟩
        refine Eq.trans ?_ q2.symm
        rw [p4, c3]
        unfold bd bp; rw [if_neg (by simp), if_neg (by simp), if_pos rfl]
        simp [vs]
      · by_cases c4 : (rKind (l, false)).1 = 4
        · rw [prs_4 c4] at hl hr ⊢
          simp only at hl hr ⊢
          obtain ⟨p1, p4, p5⟩ := rEdg_ok bk hr
          obtain ⟨_, q2, _⟩ := rKind_ok (s := (l, false)) hb p1
          simp only at q2
          refine ⟨?_, (by show 0 < 18446744073709551616; omega), (by show 0 < 18446744073709551616; omega), p5⟩
          refine Eq.trans ?_ q2.symm
          rw [p4, c4, hl]
          unfold bd bp; rw [if_neg (by simp), if_neg (by simp), if_neg (by simp)]
          simp [vs]
        · rw [prs_5 c1 c2 c3 c4] at h
          unfold rf at h
          simp only at h
          rw [if_neg (by omega), if_neg (by omega), if_neg (by omega)] at h
          omega
/-- a body that may be is short -/
theorem bd_len {f : Fr} (hw : f.Wf) (h : rf f = 0) : (bd f).length ≤ 2200 ∧ 1 ≤ (bd f).length := by
  obtain ⟨w1, w2, w3⟩ := hw
  unfold rf at h
  unfold bd bp
  by_cases c12 : f.kind = 1 ∨ f.kind = 2
  · rw [if_pos c12] at h
    obtain ⟨h1, h2, h3, h4, h5⟩ := rfR_ok h
    have v1 := vrt_ten w1
    have v2 := vrt_ten (n := f.r.key.size) (by have := h3.2; omega)
    have h32 := h3.2
    by_cases c1 : f.kind = 1
    · rw [if_pos c1]
      rw [if_neg (by omega)] at h4
      simp [vs, bl_len]; omega
    · rw [if_neg c1, if_pos (by omega)]
      simp [vs, bl_len]; omega
  · rw [if_neg c12] at h
    rw [if_neg (by omega), if_neg (by omega)]
    by_cases c3 : f.kind = 3
    · rw [if_pos c3] at h ⊢
      obtain ⟨h1, h2, h3, h4, h5, h6, h7⟩ := rfP_ok h
      have v1 := vrt_ten w2
      have v2 := vrt_ten (n := f.p.at_.toNat) (by have := h4.2; omega)
      have v3 := vrt_ten (n := f.p.len.toNat) (by have := h5.2; omega)
      have h32 := h3.2
      simp [vs, bl_len]; omega
    · rw [if_neg c3] at h ⊢
      by_cases c4 : f.kind = 4
      · rw [if_pos c4] at h
        obtain ⟨h1, h2, h3, h4⟩ := rfE_ok h
        have v1 := vrt_ten (n := f.e.count.toNat) (by have := h1.2; omega)
        have v2 := vrt_ten (n := f.e.bytes.toNat) (by have := h2.2; omega)
        have v3 := vrt_ten (n := f.e.frames.toNat) (by have := h3.2; omega)
        have v4 := vrt_ten (n := f.e.sum) (by omega)
        simp [vs]; omega
      · rw [if_neg c4] at h; omega
theorem vs_byt (l : List Nat) : Byt (vs l) := by
  intro x hx
  unfold vs at hx
  obtain ⟨a, ha, hxa⟩ := List.mem_flatten.1 hx
  obtain ⟨n, _, rfl⟩ := List.mem_map.1 ha
  exact vrt_byt n x hxa
theorem bd_byt {f : Fr} (h : rf f = 0) : Byt (bd f) := by
  have one : ∀ k, k < 256 → Byt [k] := by intro k hk x hx; simp at hx; omega
  have key : ∀ p ∈ bp f, Byt p := by
    unfold bp
    unfold rf at h
    by_cases c1 : f.kind = 1
    · rw [if_pos c1]
      intro p hp
      simp only [List.mem_cons, List.not_mem_nil, or_false] at hp
      rcases hp with rfl | rfl | rfl | rfl
      · exact one 1 (by omega)
      · exact vs_byt _
      · exact bl_byt _
      · exact bl_byt _
    · rw [if_neg c1]
      by_cases c2 : f.kind = 2
      · rw [if_pos c2]
        intro p hp
        simp only [List.mem_cons, List.not_mem_nil, or_false] at hp
        rcases hp with rfl | rfl | rfl
        · exact one 2 (by omega)
        · exact vs_byt _
        · exact bl_byt _
      · rw [if_neg c2]
        rw [if_neg (by omega)] at h
        by_cases c3 : f.kind = 3
        · rw [if_pos c3]
          rw [if_pos c3] at h
          have := (rfP_ok h).1
          intro p hp
          simp only [List.mem_cons, List.not_mem_nil, or_false] at hp
          rcases hp with rfl | rfl | rfl | rfl | rfl
          · exact one 3 (by omega)
          · exact vs_byt _
          · exact one _ (by omega)
          · exact vs_byt _
          · exact bl_byt _
        · rw [if_neg c3]
          intro p hp
          simp only [List.mem_cons, List.not_mem_nil, or_false] at hp
          rcases hp with rfl | rfl
          · exact one 4 (by omega)
          · exact vs_byt _
  intro x hx
  obtain ⟨p, hp, hxp⟩ := List.mem_flatten.1 hx
  exact key p hp x hxp
end Vt
end Go.Proofs.YtolddolfpnkndaaGreat
namespace Go.Proofs.YtolddolfpnkndaaGreat
open Go.RowKit
namespace Vt
/-- a record's cells, a pointer's, an ending's, a frame's -/
def rv (r : Rec) : Array Value := #[.int .u64 (r.lsn : Int), .int .i64 r.kind, .string r.key, .string r.val]
def fv (f : Fr) : Array Value := #[.int .i64 f.kind, .int .u64 (f.r.lsn : Int), .int .i64 f.r.kind, .string f.r.key, .string f.r.val, .int .u64 (f.p.lsn : Int), .int .i64 f.p.kind, .int .i64 f.p.at_, .int .i64 f.p.len, .string f.p.key, .int .i64 f.e.count, .int .i64 f.e.bytes, .int .i64 f.e.frames, .int .u32 (f.e.sum : Int)]
theorem fr_eq {f g : Fr} (h1 : f.kind = g.kind) (h2 : f.r.lsn = g.r.lsn) (h3 : f.r.kind = g.r.kind) (h4 : f.r.key.toList = g.r.key.toList) (h5 : f.r.val.toList = g.r.val.toList) (h6 : f.p.lsn = g.p.lsn) (h7 : f.p.kind = g.p.kind) (h8 : f.p.at_ = g.p.at_) (h9 : f.p.len = g.p.len) (h10 : f.p.key.toList = g.p.key.toList) (h11 : f.e.count = g.e.count) (h12 : f.e.bytes = g.e.bytes) (h13 : f.e.frames = g.e.frames) (h14 : f.e.sum = g.e.sum) : f = g := by
  have inj : ∀ {a b : ByteArray}, a.toList = b.toList → a = b := by
    intro a b e
    rw [ByteArray.toList_eq, ByteArray.toList_eq] at e
    exact Go.WideShapes.bytes_inj e
  obtain ⟨k, ⟨a1, a2, a3, a4⟩, ⟨b1, b2, b3, b4, b5⟩, ⟨c1, c2, c3, c4⟩⟩ := f
  obtain ⟨k', ⟨a1', a2', a3', a4'⟩, ⟨b1', b2', b3', b4', b5'⟩, ⟨c1', c2', c3', c4'⟩⟩ := g
  simp only at *
  have e4 := inj h4
  have e5 := inj h5
  have e10 := inj h10
  subst h1 h2 h3 e4 e5 h6 h7 h8 h9 e10 h11 h12 h13 h14
  rfl
theorem eq_fr (f : Fr) (w : World) : (Op.equalIn 10000 59 (.agg (fv f)) (.agg (fv f))).run Tryz.prog w = .ok true w := by
  unfold fv
  simp [go_sem, Op.eqFields]
theorem ne_fr {f g : Fr} (h : f ≠ g) (w : World) : (Op.equalIn 10000 59 (.agg (fv f)) (.agg (fv g))).run Tryz.prog w = .ok false w := by
  unfold fv
  simp [go_sem, Op.eqFields]
  intro h1 h2 h3 h4 h5 h6 h7 h8 h9 h10 h11 h12 h13 h14
  exact h (fr_eq h1 (by omega) h3 h4 h5 (by omega) h7 h8 h9 h10 h11 h12 h13 (by omega))
theorem neq_yes {f g : Fr} (h : f ≠ g) (w : World) : (binOp .neq 59 (.agg (fv f)) (.agg (fv g))).run Tryz.prog w = .ok (.bool true) w := by
  rw [run_neq_struct, ne_fr h]; rfl
theorem neq_no {f g : Fr} (h : f = g) (w : World) : (binOp .neq 59 (.agg (fv f)) (.agg (fv g))).run Tryz.prog w = .ok (.bool false) w := by
  rw [run_neq_struct, h, eq_fr]; rfl
set_option maxHeartbeats 400000 in
theorem mayBeKey_yes (s : ByteArray) (w : World) (h : mayKey s) : Calls Tryz.prog 118 #[.string s] w fun e w' => e = .returned (.bool true) ∧ w' = w := by
  obtain ⟨h1, h2⟩ := h
  have e : decide ((s.size : Int) ≤ 64) = true := by simp; omega
  go_enter Tryz.func118, Tryz.ntmps118
  go_wp2
  go_ret
  exact ⟨rfl, rfl⟩
set_option maxHeartbeats 400000 in
theorem mayBeKey_no (s : ByteArray) (w : World) (h : ¬ mayKey s) : Calls Tryz.prog 118 #[.string s] w fun e w' => e = .returned (.bool false) ∧ w' = w := by
  unfold mayKey at h
  by_cases h1 : 1 ≤ s.size
  · have h2 : ¬ s.size ≤ 64 := fun q => h ⟨h1, q⟩
    have e : decide ((s.size : Int) ≤ 64) = false := by simp; omega
    clear h
    go_enter Tryz.func118, Tryz.ntmps118
    go_wp2
    go_ret
    exact ⟨rfl, rfl⟩
  · clear h
    go_enter Tryz.func118, Tryz.ntmps118
    go_wp2
    go_ret
    exact ⟨rfl, rfl⟩
set_option maxHeartbeats 400000 in
theorem onDisk_yes (n : Int) (w : World) (h : onD n) : Calls Tryz.prog 120 #[.int .i64 n] w fun e w' => e = .returned (.bool true) ∧ w' = w := by
  obtain ⟨h1, h2⟩ := h
  have e : decide (n ≤ 4194304) = true := by simp; omega
  go_enter Tryz.func120, Tryz.ntmps120
  go_wp2
  go_ret
  exact ⟨rfl, rfl⟩
set_option maxHeartbeats 400000 in
theorem onDisk_no (n : Int) (w : World) (h : ¬ onD n) : Calls Tryz.prog 120 #[.int .i64 n] w fun e w' => e = .returned (.bool false) ∧ w' = w := by
  unfold onD at h
  by_cases h1 : 0 ≤ n
  · have h2 : ¬ n ≤ 4194304 := fun q => h ⟨h1, q⟩
    have e : decide (n ≤ 4194304) = false := by simp; omega
    clear h
    go_enter Tryz.func120, Tryz.ntmps120
    go_wp2
    go_ret
    exact ⟨rfl, rfl⟩
  · clear h
    go_enter Tryz.func120, Tryz.ntmps120
    go_wp2
    go_ret
    exact ⟨rfl, rfl⟩
def mv (k : Int) : Int := if k = 2 then 0 else 2048
theorem mostValue_is (k : Int) (w : World) : Calls Tryz.prog 119 #[.int .i64 k] w fun e w' => e = .returned (.int .i64 (mv k)) ∧ w' = w := by
  unfold mv
  by_cases h : k = 2
  · subst h
    go_enter Tryz.func119, Tryz.ntmps119
    go_wp2
    go_ret
    exact ⟨rfl, rfl⟩
  · rw [if_neg h]
    go_enter Tryz.func119, Tryz.ntmps119
    go_wp2
    go_ret
    exact ⟨rfl, rfl⟩
theorem heap_two (w : World) (A B : Obj) : ((w.alloc A).alloc B).heap[w.heap.size + 1]? = some B := by
  have h := heap_alloc_new (w.alloc A) B
  rw [World.size_alloc] at h
  exact h
theorem below_alloc1 {w w' : World} {o : Obj} (h : Below (w.alloc o).heap.size (w.alloc o) w') : Below w.heap.size w w' := ((Below.refl _ _).alloc (Nat.le_refl _) o).trans (h.mono (by simp))
theorem below_two (w : World) (A B : Obj) : Below w.heap.size w ((w.alloc A).alloc B) := ((Below.refl _ _).alloc (Nat.le_refl _) _).alloc (by simp) _
set_option maxRecDepth 100000 in
set_option maxHeartbeats 400000 in
theorem of_is (r : Rec) (w : World) : Calls Tryz.prog 27 #[.agg (rv r)] w fun e w' => e = .returned (.agg (fv (ofR r))) ∧ w' = (w.alloc (.cells (rv r) 38)).alloc (.cells (fv (ofR r)) 59) := by
  unfold rv fv ofR zp ze
  obtain ⟨lsn, kind, key, val⟩ := r
  simp only
  go_enter Tryz.func27, Tryz.ntmps27
  go_wp2
  refine bodyPost_ret (results_cell_row rfl _ _ (w.heap.size + 1) 59 _ (0, 0) _ rfl (heap_two _ _ _) Tryz.underlying59 rfl (by kernel_rfl)) rfl ?_
  exact ⟨rfl, rfl⟩
theorem below_rest (w : World) (A B C D : Obj) (n : Nat) : Below w.heap.size w (((((w.alloc A).alloc B).drewN n).alloc C).alloc D) := by
  have h := below_drewN (below_two w A B) n
  exact (h.alloc h.size _).alloc (by have := h.size; simp; omega) _
theorem ite_ne {f g : Fr} {b : Bool} (hb : b = false ↔ f = g) {inst : Decidable (f ≠ g)} : (@ite Nat (f ≠ g) inst 40 0) = if b then 40 else 0 := by
  cases b
  · rw [if_neg (fun q => q (hb.1 rfl))]; rfl
  · rw [if_pos (fun q => by have := hb.2 q; cases this)]; rfl
theorem neq_any (f g : Fr) : ∃ b : Bool, (∀ w, (binOp .neq 59 (.agg (fv f)) (.agg (fv g))).run Tryz.prog w = .ok (.bool b) w) ∧ (b = false ↔ f = g) := by
  by_cases h : f = g
  · exact ⟨false, neq_no h, by simp [h]⟩
  · exact ⟨true, neq_yes h, by simp [h]⟩
set_option maxRecDepth 100000 in
set_option maxHeartbeats 4000000 in
theorem recRef_is (f : Fr) (w : World) : Calls Tryz.prog 98 #[.agg (fv f)] w fun e w' => e = .returned (.int .i64 (rfR f : Int)) ∧ Below w.heap.size w w' := by
  obtain ⟨k, ⟨lsn, rk, key, val⟩, ⟨pl, pk, pa, pn, pkey⟩, ⟨ec, eb, ef, es⟩⟩ := f
  have hof := of_is ⟨lsn, rk, key, val⟩
  unfold rfR
  simp only
  by_cases c1 : rk ≠ k
  · rw [if_pos c1]
    have q : (rk != k) = true := by simpa using c1
    unfold fv
    go_enter Tryz.func98, Tryz.ntmps98
    go_wp2_with fail
    go_ret
    exact ⟨rfl, below_two _ _ _⟩
  · rw [if_neg c1]
    obtain rfl : rk = k := Classical.not_not.1 c1
    clear c1
    by_cases c2 : lsn = 0
    · rw [if_pos c2]
      subst c2
      unfold fv
      go_enter Tryz.func98, Tryz.ntmps98
      go_wp2_with fail
      go_ret
      exact ⟨rfl, below_two _ _ _⟩
    · rw [if_neg c2]
      have q2 : (((lsn : Nat) : Int) == 0) = false := by simp; omega
      by_cases c3 : ¬ mayKey key
      · rw [if_pos c3]
        unfold fv
        go_enter Tryz.func98, Tryz.ntmps98
        go_wp2_with fail
        refine Calls.mono (mayBeKey_no _ _ c3) ?_
        rintro e w' ⟨rfl, rfl⟩
        go_wp2_with fail
        go_ret
        exact ⟨rfl, below_two _ _ _⟩
      · rw [if_neg c3]
        have HK := hd (Classical.not_not.1 c3)
        clear c3
        by_cases c4 : (if rk = 2 then 0 else 2048) < val.size
        · rw [if_pos c4]
          have HM := hd (mostValue_is rk)
          have q4 : decide (mv rk < (val.size : Int)) = true := by
            rw [decide_eq_true_iff]; unfold mv; by_cases h : rk = 2
            · rw [if_pos h] at c4 ⊢; omega
            · rw [if_neg h] at c4 ⊢; omega
          have HQ4 := hd c4
          clear c4
          generalize mv rk = m at *
          unfold fv
          go_enter Tryz.func98, Tryz.ntmps98
          go_wp2_with fail
          refine Calls.mono (mayBeKey_yes _ _ HK.out) ?_
          rintro e w' ⟨rfl, rfl⟩
          go_wp2_with fail
          go_quiet (first | (go_at_call 119; refine Calls.quiet_of_same (HM.out _)))
          go_wp2_with fail
          go_ret
          exact ⟨rfl, below_drewN (below_two _ _ _) _⟩
        · rw [if_neg c4]
          have HM := hd (mostValue_is rk)
          have q4 : decide (mv rk < (val.size : Int)) = false := by
            rw [decide_eq_false_iff_not]; unfold mv; by_cases h : rk = 2
            · rw [if_pos h] at c4 ⊢; omega
            · rw [if_neg h] at c4 ⊢; omega
          clear c4
          generalize mv rk = m at *
          obtain ⟨b, hb1, hb2⟩ := neq_any ⟨rk, ⟨lsn, rk, key, val⟩, ⟨pl, pk, pa, pn, pkey⟩, ⟨ec, eb, ef, es⟩⟩ (ofR ⟨lsn, rk, key, val⟩)
          have hne : ∀ w, (binOp .neq 59 (.agg #[.int .i64 rk, .int .u64 (lsn : Int), .int .i64 rk, .string key, .string val, .int .u64 (pl : Int), .int .i64 pk, .int .i64 pa, .int .i64 pn, .string pkey, .int .i64 ec, .int .i64 eb, .int .i64 ef, .int .u32 (es : Int)]) (.agg #[.int .i64 rk, .int .u64 (lsn : Int), .int .i64 rk, .string key, .string val, .int .u64 0, .int .i64 0, .int .i64 0, .int .i64 0, .string ByteArray.empty, .int .i64 0, .int .i64 0, .int .i64 0, .int .u32 0])).run Tryz.prog w = .ok (.bool b) w := hb1
          have HOF : Hid (∀ w, Calls Tryz.prog 27 #[.agg #[.int .u64 (lsn : Int), .int .i64 rk, .string key, .string val]] w fun e w' => e = .returned (.agg #[.int .i64 rk, .int .u64 (lsn : Int), .int .i64 rk, .string key, .string val, .int .u64 0, .int .i64 0, .int .i64 0, .int .i64 0, .string ByteArray.empty, .int .i64 0, .int .i64 0, .int .i64 0, .int .u32 0]) ∧ w' = (w.alloc (.cells #[.int .u64 (lsn : Int), .int .i64 rk, .string key, .string val] 38)).alloc (.cells #[.int .i64 rk, .int .u64 (lsn : Int), .int .i64 rk, .string key, .string val, .int .u64 0, .int .i64 0, .int .i64 0, .int .i64 0, .string ByteArray.empty, .int .i64 0, .int .i64 0, .int .i64 0, .int .u32 0] 59)) := hof
          rw [ite_ne hb2]
          clear hof hb1 hb2
          unfold fv
          cases b
          all_goals (
            go_enter Tryz.func98, Tryz.ntmps98
            go_wp2_with fail
            refine Calls.mono (mayBeKey_yes _ _ HK.out) ?_
            rintro e w' ⟨rfl, rfl⟩
            go_wp2_with fail
            go_quiet (first | (go_at_call 119; refine Calls.quiet_of_same (HM.out _)))
            go_wp2_with fail
            go_region_with (go_at_call 27; refine Calls.mono (HOF.out _) ?_; rintro e w' ⟨rfl, rfl⟩)
            all_goals go_wp2_with fail
            all_goals go_ret
            all_goals exact ⟨rfl, below_rest _ _ _ _ _ _⟩)
end Vt
end Go.Proofs.YtolddolfpnkndaaGreat
namespace Go.Proofs.YtolddolfpnkndaaGreat
open Go.RowKit
namespace Vt
def onB (n : Int) : Bool := decide (0 ≤ n) && decide (n ≤ 4194304)
theorem onB_iff (n : Int) : onB n = true ↔ onD n := by unfold onB onD; simp
theorem onDisk_is (n : Int) (w : World) : Calls Tryz.prog 120 #[.int .i64 n] w fun e w' => e = .returned (.bool (onB n)) ∧ w' = w := by
  by_cases h : onD n
  · rw [(onB_iff n).2 h]; exact onDisk_yes n w h
  · rw [show onB n = false by rw [← Bool.not_eq_true, onB_iff]; exact h]; exact onDisk_no n w h
set_option maxRecDepth 100000 in
set_option maxHeartbeats 2000000 in
theorem ptr_46 (rl : Nat) (rk : Int) (rkey rval : ByteArray) (pl : Nat) (pk pa pn : Int) (pkey : ByteArray) (ec eb ef : Int) (es : Nat) (w : World) (q1 : (pk != 1) = true) (q2 : (pk != 2) = true) :
    Calls Tryz.prog 99 #[.agg #[.int .i64 3, .int .u64 (rl : Int), .int .i64 rk, .string rkey, .string rval, .int .u64 (pl : Int), .int .i64 pk, .int .i64 pa, .int .i64 pn, .string pkey, .int .i64 ec, .int .i64 eb, .int .i64 ef, .int .u32 (es : Int)]] w fun e w' => e = .returned (.int .i64 46) ∧ Below w.heap.size w w' := by
  go_enter Tryz.func99, Tryz.ntmps99
  go_wp2_with (first | (go_at_call 120; refine Calls.mono (onDisk_is _ _) ?_; rintro e w' ⟨rfl, rfl⟩))
  go_ret
  exact ⟨rfl, below_two _ _ _⟩
set_option maxRecDepth 100000 in
set_option maxHeartbeats 2000000 in
theorem ptr_47 (rl : Nat) (rk : Int) (rkey rval : ByteArray) (pl : Nat) (pk pa pn : Int) (pkey : ByteArray) (ec eb ef : Int) (es : Nat) (w : World) (hpk : pk = 1 ∨ pk = 2) (h0 : pl = 0) :
    Calls Tryz.prog 99 #[.agg #[.int .i64 3, .int .u64 (rl : Int), .int .i64 rk, .string rkey, .string rval, .int .u64 (pl : Int), .int .i64 pk, .int .i64 pa, .int .i64 pn, .string pkey, .int .i64 ec, .int .i64 eb, .int .i64 ef, .int .u32 (es : Int)]] w fun e w' => e = .returned (.int .i64 47) ∧ Below w.heap.size w w' := by
  subst h0
  rcases hpk with rfl | rfl
  all_goals (
    go_enter Tryz.func99, Tryz.ntmps99
    go_wp2_with (first | (go_at_call 120; refine Calls.mono (onDisk_is _ _) ?_; rintro e w' ⟨rfl, rfl⟩))
    go_ret
    exact ⟨rfl, below_two _ _ _⟩)
set_option maxRecDepth 100000 in
set_option maxHeartbeats 2000000 in
theorem ptr_48 (rl : Nat) (rk : Int) (rkey rval : ByteArray) (pl : Nat) (pk pa pn : Int) (pkey : ByteArray) (ec eb ef : Int) (es : Nat) (w : World) (hpk : pk = 1 ∨ pk = 2) (q3 : (((pl : Nat) : Int) == 0) = false) (HK : Hid (∀ w : World, Calls Tryz.prog 118 #[.string pkey] w fun e w' => e = .returned (.bool false) ∧ w' = w)) :
    Calls Tryz.prog 99 #[.agg #[.int .i64 3, .int .u64 (rl : Int), .int .i64 rk, .string rkey, .string rval, .int .u64 (pl : Int), .int .i64 pk, .int .i64 pa, .int .i64 pn, .string pkey, .int .i64 ec, .int .i64 eb, .int .i64 ef, .int .u32 (es : Int)]] w fun e w' => e = .returned (.int .i64 48) ∧ Below w.heap.size w w' := by
  rcases hpk with rfl | rfl
  all_goals (
    go_enter Tryz.func99, Tryz.ntmps99
    go_wp2_with (first | (go_at_call 118; refine Calls.mono (HK.out _) ?_; rintro e w' ⟨rfl, rfl⟩) | (go_at_call 120; refine Calls.mono (onDisk_is _ _) ?_; rintro e w' ⟨rfl, rfl⟩))
    go_ret
    exact ⟨rfl, below_two _ _ _⟩)
set_option maxRecDepth 100000 in
set_option maxHeartbeats 2000000 in
theorem ptr_40a (rl : Nat) (rk : Int) (rkey rval : ByteArray) (pl : Nat) (pk pa pn : Int) (pkey : ByteArray) (ec eb ef : Int) (es : Nat) (w : World) (hpk : pk = 1 ∨ pk = 2) (q3 : (((pl : Nat) : Int) == 0) = false) (HK : Hid (∀ w : World, Calls Tryz.prog 118 #[.string pkey] w fun e w' => e = .returned (.bool true) ∧ w' = w)) (d1 : onB pa = false) :
    Calls Tryz.prog 99 #[.agg #[.int .i64 3, .int .u64 (rl : Int), .int .i64 rk, .string rkey, .string rval, .int .u64 (pl : Int), .int .i64 pk, .int .i64 pa, .int .i64 pn, .string pkey, .int .i64 ec, .int .i64 eb, .int .i64 ef, .int .u32 (es : Int)]] w fun e w' => e = .returned (.int .i64 40) ∧ Below w.heap.size w w' := by
  rcases hpk with rfl | rfl
  all_goals (
    go_enter Tryz.func99, Tryz.ntmps99
    go_wp2_with (first | (go_at_call 118; refine Calls.mono (HK.out _) ?_; rintro e w' ⟨rfl, rfl⟩) | (go_at_call 120; refine Calls.mono (onDisk_is _ _) ?_; rintro e w' ⟨rfl, rfl⟩))
    go_ret
    exact ⟨rfl, below_two _ _ _⟩)
set_option maxRecDepth 100000 in
set_option maxHeartbeats 2000000 in
theorem ptr_40b (rl : Nat) (rk : Int) (rkey rval : ByteArray) (pl : Nat) (pk pa pn : Int) (pkey : ByteArray) (ec eb ef : Int) (es : Nat) (w : World) (hpk : pk = 1 ∨ pk = 2) (q3 : (((pl : Nat) : Int) == 0) = false) (HK : Hid (∀ w : World, Calls Tryz.prog 118 #[.string pkey] w fun e w' => e = .returned (.bool true) ∧ w' = w)) (d1 : onB pa = true) (d2 : onB pn = false) :
    Calls Tryz.prog 99 #[.agg #[.int .i64 3, .int .u64 (rl : Int), .int .i64 rk, .string rkey, .string rval, .int .u64 (pl : Int), .int .i64 pk, .int .i64 pa, .int .i64 pn, .string pkey, .int .i64 ec, .int .i64 eb, .int .i64 ef, .int .u32 (es : Int)]] w fun e w' => e = .returned (.int .i64 40) ∧ Below w.heap.size w w' := by
  rcases hpk with rfl | rfl
  all_goals (
    go_enter Tryz.func99, Tryz.ntmps99
    go_wp2_with (first | (go_at_call 118; refine Calls.mono (HK.out _) ?_; rintro e w' ⟨rfl, rfl⟩) | (go_at_call 120; refine Calls.mono (onDisk_is _ _) ?_; rintro e w' ⟨rfl, rfl⟩))
    go_ret
    exact ⟨rfl, below_two _ _ _⟩)
set_option maxRecDepth 100000 in
set_option maxHeartbeats 2000000 in
theorem ptr_40c (rl : Nat) (rk : Int) (rkey rval : ByteArray) (pl : Nat) (pk pa pn : Int) (pkey : ByteArray) (ec eb ef : Int) (es : Nat) (w : World) (hpk : pk = 1 ∨ pk = 2) (q3 : (((pl : Nat) : Int) == 0) = false) (HK : Hid (∀ w : World, Calls Tryz.prog 118 #[.string pkey] w fun e w' => e = .returned (.bool true) ∧ w' = w)) (d1 : onB pa = true) (d2 : onB pn = true) (d3 : pn = 0) :
    Calls Tryz.prog 99 #[.agg #[.int .i64 3, .int .u64 (rl : Int), .int .i64 rk, .string rkey, .string rval, .int .u64 (pl : Int), .int .i64 pk, .int .i64 pa, .int .i64 pn, .string pkey, .int .i64 ec, .int .i64 eb, .int .i64 ef, .int .u32 (es : Int)]] w fun e w' => e = .returned (.int .i64 40) ∧ Below w.heap.size w w' := by
  subst d3
  rcases hpk with rfl | rfl
  all_goals (
    go_enter Tryz.func99, Tryz.ntmps99
    go_wp2_with (first | (go_at_call 118; refine Calls.mono (HK.out _) ?_; rintro e w' ⟨rfl, rfl⟩) | (go_at_call 120; refine Calls.mono (onDisk_is _ _) ?_; rintro e w' ⟨rfl, rfl⟩))
    go_ret
    exact ⟨rfl, below_two _ _ _⟩)
set_option maxRecDepth 100000 in
set_option maxHeartbeats 2000000 in
theorem ptr_ey (rl : Nat) (rk : Int) (rkey rval : ByteArray) (pl : Nat) (pk pa pn : Int) (pkey : ByteArray) (ec eb ef : Int) (es : Nat) (w : World) (hpk : pk = 1 ∨ pk = 2) (q3 : (((pl : Nat) : Int) == 0) = false) (HK : Hid (∀ w : World, Calls Tryz.prog 118 #[.string pkey] w fun e w' => e = .returned (.bool true) ∧ w' = w)) (d1 : onB pa = true) (d2 : onB pn = true) (d3 : (pn == 0) = false) (hne : ∀ w, (binOp .neq 59 (.agg #[.int .i64 3, .int .u64 (rl : Int), .int .i64 rk, .string rkey, .string rval, .int .u64 (pl : Int), .int .i64 pk, .int .i64 pa, .int .i64 pn, .string pkey, .int .i64 ec, .int .i64 eb, .int .i64 ef, .int .u32 (es : Int)]) (.agg #[.int .i64 3, .int .u64 0, .int .i64 0, .string ⟨#[]⟩, .string ⟨#[]⟩, .int .u64 (pl : Int), .int .i64 pk, .int .i64 pa, .int .i64 pn, .string pkey, .int .i64 0, .int .i64 0, .int .i64 0, .int .u32 0])).run Tryz.prog w = .ok (.bool true) w) :
    Calls Tryz.prog 99 #[.agg #[.int .i64 3, .int .u64 (rl : Int), .int .i64 rk, .string rkey, .string rval, .int .u64 (pl : Int), .int .i64 pk, .int .i64 pa, .int .i64 pn, .string pkey, .int .i64 ec, .int .i64 eb, .int .i64 ef, .int .u32 (es : Int)]] w fun e w' => e = .returned (.int .i64 40) ∧ Below w.heap.size w w' := by
  rcases hpk with rfl | rfl
  all_goals (
    go_enter Tryz.func99, Tryz.ntmps99
    go_wp2_with (first | (go_at_call 118; refine Calls.mono (HK.out _) ?_; rintro e w' ⟨rfl, rfl⟩) | (go_at_call 120; refine Calls.mono (onDisk_is _ _) ?_; rintro e w' ⟨rfl, rfl⟩))
    go_ret
    exact ⟨rfl, below_two _ _ _⟩)
set_option maxRecDepth 100000 in
set_option maxHeartbeats 2000000 in
theorem ptr_en (rl : Nat) (rk : Int) (rkey rval : ByteArray) (pl : Nat) (pk pa pn : Int) (pkey : ByteArray) (ec eb ef : Int) (es : Nat) (w : World) (hpk : pk = 1 ∨ pk = 2) (q3 : (((pl : Nat) : Int) == 0) = false) (HK : Hid (∀ w : World, Calls Tryz.prog 118 #[.string pkey] w fun e w' => e = .returned (.bool true) ∧ w' = w)) (d1 : onB pa = true) (d2 : onB pn = true) (d3 : (pn == 0) = false) (hne : ∀ w, (binOp .neq 59 (.agg #[.int .i64 3, .int .u64 (rl : Int), .int .i64 rk, .string rkey, .string rval, .int .u64 (pl : Int), .int .i64 pk, .int .i64 pa, .int .i64 pn, .string pkey, .int .i64 ec, .int .i64 eb, .int .i64 ef, .int .u32 (es : Int)]) (.agg #[.int .i64 3, .int .u64 0, .int .i64 0, .string ⟨#[]⟩, .string ⟨#[]⟩, .int .u64 (pl : Int), .int .i64 pk, .int .i64 pa, .int .i64 pn, .string pkey, .int .i64 0, .int .i64 0, .int .i64 0, .int .u32 0])).run Tryz.prog w = .ok (.bool false) w) :
    Calls Tryz.prog 99 #[.agg #[.int .i64 3, .int .u64 (rl : Int), .int .i64 rk, .string rkey, .string rval, .int .u64 (pl : Int), .int .i64 pk, .int .i64 pa, .int .i64 pn, .string pkey, .int .i64 ec, .int .i64 eb, .int .i64 ef, .int .u32 (es : Int)]] w fun e w' => e = .returned (.int .i64 0) ∧ Below w.heap.size w w' := by
  rcases hpk with rfl | rfl
  all_goals (
    go_enter Tryz.func99, Tryz.ntmps99
    go_wp2_with (first | (go_at_call 118; refine Calls.mono (HK.out _) ?_; rintro e w' ⟨rfl, rfl⟩) | (go_at_call 120; refine Calls.mono (onDisk_is _ _) ?_; rintro e w' ⟨rfl, rfl⟩))
    go_ret
    exact ⟨rfl, below_two _ _ _⟩)
set_option maxRecDepth 100000 in
set_option maxHeartbeats 2000000 in
theorem edg_40a (rl : Nat) (rk : Int) (rkey rval : ByteArray) (pl : Nat) (pk pa pn : Int) (pkey : ByteArray) (ec eb ef : Int) (es : Nat) (w : World) (d1 : onB ec = false) :
    Calls Tryz.prog 100 #[.agg #[.int .i64 4, .int .u64 (rl : Int), .int .i64 rk, .string rkey, .string rval, .int .u64 (pl : Int), .int .i64 pk, .int .i64 pa, .int .i64 pn, .string pkey, .int .i64 ec, .int .i64 eb, .int .i64 ef, .int .u32 (es : Int)]] w fun e w' => e = .returned (.int .i64 40) ∧ Below w.heap.size w w' := by
  go_enter Tryz.func100, Tryz.ntmps100
  go_wp2_with (first | (go_at_call 120; refine Calls.mono (onDisk_is _ _) ?_; rintro e w' ⟨rfl, rfl⟩))
  go_ret
  exact ⟨rfl, below_two _ _ _⟩
set_option maxRecDepth 100000 in
set_option maxHeartbeats 2000000 in
theorem edg_40b (rl : Nat) (rk : Int) (rkey rval : ByteArray) (pl : Nat) (pk pa pn : Int) (pkey : ByteArray) (ec eb ef : Int) (es : Nat) (w : World) (d1 : onB ec = true) (d2 : onB eb = false) :
    Calls Tryz.prog 100 #[.agg #[.int .i64 4, .int .u64 (rl : Int), .int .i64 rk, .string rkey, .string rval, .int .u64 (pl : Int), .int .i64 pk, .int .i64 pa, .int .i64 pn, .string pkey, .int .i64 ec, .int .i64 eb, .int .i64 ef, .int .u32 (es : Int)]] w fun e w' => e = .returned (.int .i64 40) ∧ Below w.heap.size w w' := by
  go_enter Tryz.func100, Tryz.ntmps100
  go_wp2_with (first | (go_at_call 120; refine Calls.mono (onDisk_is _ _) ?_; rintro e w' ⟨rfl, rfl⟩))
  go_ret
  exact ⟨rfl, below_two _ _ _⟩
set_option maxRecDepth 100000 in
set_option maxHeartbeats 2000000 in
theorem edg_40c (rl : Nat) (rk : Int) (rkey rval : ByteArray) (pl : Nat) (pk pa pn : Int) (pkey : ByteArray) (ec eb ef : Int) (es : Nat) (w : World) (d1 : onB ec = true) (d2 : onB eb = true) (d3 : onB ef = false) :
    Calls Tryz.prog 100 #[.agg #[.int .i64 4, .int .u64 (rl : Int), .int .i64 rk, .string rkey, .string rval, .int .u64 (pl : Int), .int .i64 pk, .int .i64 pa, .int .i64 pn, .string pkey, .int .i64 ec, .int .i64 eb, .int .i64 ef, .int .u32 (es : Int)]] w fun e w' => e = .returned (.int .i64 40) ∧ Below w.heap.size w w' := by
  go_enter Tryz.func100, Tryz.ntmps100
  go_wp2_with (first | (go_at_call 120; refine Calls.mono (onDisk_is _ _) ?_; rintro e w' ⟨rfl, rfl⟩))
  go_ret
  exact ⟨rfl, below_two _ _ _⟩
set_option maxRecDepth 100000 in
set_option maxHeartbeats 2000000 in
theorem edg_ey (rl : Nat) (rk : Int) (rkey rval : ByteArray) (pl : Nat) (pk pa pn : Int) (pkey : ByteArray) (ec eb ef : Int) (es : Nat) (w : World) (d1 : onB ec = true) (d2 : onB eb = true) (d3 : onB ef = true) (hne : ∀ w, (binOp .neq 59 (.agg #[.int .i64 4, .int .u64 (rl : Int), .int .i64 rk, .string rkey, .string rval, .int .u64 (pl : Int), .int .i64 pk, .int .i64 pa, .int .i64 pn, .string pkey, .int .i64 ec, .int .i64 eb, .int .i64 ef, .int .u32 (es : Int)]) (.agg #[.int .i64 4, .int .u64 0, .int .i64 0, .string ⟨#[]⟩, .string ⟨#[]⟩, .int .u64 0, .int .i64 0, .int .i64 0, .int .i64 0, .string ⟨#[]⟩, .int .i64 ec, .int .i64 eb, .int .i64 ef, .int .u32 (es : Int)])).run Tryz.prog w = .ok (.bool true) w) :
    Calls Tryz.prog 100 #[.agg #[.int .i64 4, .int .u64 (rl : Int), .int .i64 rk, .string rkey, .string rval, .int .u64 (pl : Int), .int .i64 pk, .int .i64 pa, .int .i64 pn, .string pkey, .int .i64 ec, .int .i64 eb, .int .i64 ef, .int .u32 (es : Int)]] w fun e w' => e = .returned (.int .i64 40) ∧ Below w.heap.size w w' := by
  go_enter Tryz.func100, Tryz.ntmps100
  go_wp2_with (first | (go_at_call 120; refine Calls.mono (onDisk_is _ _) ?_; rintro e w' ⟨rfl, rfl⟩))
  go_ret
  exact ⟨rfl, below_two _ _ _⟩
set_option maxRecDepth 100000 in
set_option maxHeartbeats 2000000 in
theorem edg_en (rl : Nat) (rk : Int) (rkey rval : ByteArray) (pl : Nat) (pk pa pn : Int) (pkey : ByteArray) (ec eb ef : Int) (es : Nat) (w : World) (d1 : onB ec = true) (d2 : onB eb = true) (d3 : onB ef = true) (hne : ∀ w, (binOp .neq 59 (.agg #[.int .i64 4, .int .u64 (rl : Int), .int .i64 rk, .string rkey, .string rval, .int .u64 (pl : Int), .int .i64 pk, .int .i64 pa, .int .i64 pn, .string pkey, .int .i64 ec, .int .i64 eb, .int .i64 ef, .int .u32 (es : Int)]) (.agg #[.int .i64 4, .int .u64 0, .int .i64 0, .string ⟨#[]⟩, .string ⟨#[]⟩, .int .u64 0, .int .i64 0, .int .i64 0, .int .i64 0, .string ⟨#[]⟩, .int .i64 ec, .int .i64 eb, .int .i64 ef, .int .u32 (es : Int)])).run Tryz.prog w = .ok (.bool false) w) :
    Calls Tryz.prog 100 #[.agg #[.int .i64 4, .int .u64 (rl : Int), .int .i64 rk, .string rkey, .string rval, .int .u64 (pl : Int), .int .i64 pk, .int .i64 pa, .int .i64 pn, .string pkey, .int .i64 ec, .int .i64 eb, .int .i64 ef, .int .u32 (es : Int)]] w fun e w' => e = .returned (.int .i64 0) ∧ Below w.heap.size w w' := by
  go_enter Tryz.func100, Tryz.ntmps100
  go_wp2_with (first | (go_at_call 120; refine Calls.mono (onDisk_is _ _) ?_; rintro e w' ⟨rfl, rfl⟩))
  go_ret
  exact ⟨rfl, below_two _ _ _⟩
theorem ptrRef_is (f : Fr) (w : World) (hk3 : f.kind = 3) : Calls Tryz.prog 99 #[.agg (fv f)] w fun e w' => e = .returned (.int .i64 (rfP f : Int)) ∧ Below w.heap.size w w' := by
  obtain ⟨k, ⟨rl, rk, rkey, rval⟩, ⟨pl, pk, pa, pn, pkey⟩, ⟨ec, eb, ef, es⟩⟩ := f
  simp only at hk3
  subst hk3
  unfold rfP
  simp only
  by_cases c1 : pk ≠ 1 ∧ pk ≠ 2
  · rw [if_pos c1]
    obtain ⟨d1, d2⟩ := c1
    exact ptr_46 rl rk rkey rval pl pk pa pn pkey ec eb ef es w (by simpa using d1) (by simpa using d2)
  · rw [if_neg c1]
    have hpk : pk = 1 ∨ pk = 2 := by omega
    by_cases c2 : pl = 0
    · rw [if_pos c2]
      exact ptr_47 rl rk rkey rval pl pk pa pn pkey ec eb ef es w hpk c2
    · rw [if_neg c2]
      have q3 : (((pl : Nat) : Int) == 0) = false := by simp; omega
      by_cases c3 : ¬ mayKey pkey
      · rw [if_pos c3]
        exact ptr_48 rl rk rkey rval pl pk pa pn pkey ec eb ef es w hpk q3 (fun w => mayBeKey_no pkey w c3)
      · rw [if_neg c3]
        have HK := hd (fun (w : World) => mayBeKey_yes pkey w (Classical.not_not.1 c3))
        by_cases c4 : ¬ onD pa ∨ ¬ onD pn ∨ pn = 0
        · rw [if_pos c4]
          by_cases d1 : onD pa
          · by_cases d2 : onD pn
            · have d3 : pn = 0 := by
                rcases c4 with h | h | h
                · exact absurd d1 h
                · exact absurd d2 h
                · exact h
              exact ptr_40c rl rk rkey rval pl pk pa pn pkey ec eb ef es w hpk q3 HK ((onB_iff _).2 d1) ((onB_iff _).2 d2) d3
            · exact ptr_40b rl rk rkey rval pl pk pa pn pkey ec eb ef es w hpk q3 HK ((onB_iff _).2 d1) (by rw [← Bool.not_eq_true, onB_iff]; exact d2)
          · exact ptr_40a rl rk rkey rval pl pk pa pn pkey ec eb ef es w hpk q3 HK (by rw [← Bool.not_eq_true, onB_iff]; exact d1)
        · rw [if_neg c4]
          have d1 : onB pa = true := (onB_iff _).2 (Classical.byContradiction fun q => c4 (.inl q))
          have d2 : onB pn = true := (onB_iff _).2 (Classical.byContradiction fun q => c4 (.inr (.inl q)))
          have d3 : (pn == 0) = false := by simpa using fun q => c4 (.inr (.inr q))
          obtain ⟨b, hb1, hb2⟩ := neq_any ⟨3, ⟨rl, rk, rkey, rval⟩, ⟨pl, pk, pa, pn, pkey⟩, ⟨ec, eb, ef, es⟩⟩ ⟨3, zr, ⟨pl, pk, pa, pn, pkey⟩, ze⟩
          rw [ite_ne hb2]
          cases b
          · exact ptr_en rl rk rkey rval pl pk pa pn pkey ec eb ef es w hpk q3 HK d1 d2 d3 hb1
          · exact ptr_ey rl rk rkey rval pl pk pa pn pkey ec eb ef es w hpk q3 HK d1 d2 d3 hb1
theorem edgRef_is (f : Fr) (w : World) (hk4 : f.kind = 4) : Calls Tryz.prog 100 #[.agg (fv f)] w fun e w' => e = .returned (.int .i64 (rfE f : Int)) ∧ Below w.heap.size w w' := by
  obtain ⟨k, ⟨rl, rk, rkey, rval⟩, ⟨pl, pk, pa, pn, pkey⟩, ⟨ec, eb, ef, es⟩⟩ := f
  simp only at hk4
  subst hk4
  unfold rfE
  simp only
  by_cases c4 : ¬ onD ec ∨ ¬ onD eb ∨ ¬ onD ef
  · rw [if_pos c4]
    by_cases d1 : onD ec
    · by_cases d2 : onD eb
      · have d3 : ¬ onD ef := by
          rcases c4 with h | h | h
          · exact absurd d1 h
          · exact absurd d2 h
          · exact h
        exact edg_40c rl rk rkey rval pl pk pa pn pkey ec eb ef es w ((onB_iff _).2 d1) ((onB_iff _).2 d2) (by rw [← Bool.not_eq_true, onB_iff]; exact d3)
      · exact edg_40b rl rk rkey rval pl pk pa pn pkey ec eb ef es w ((onB_iff _).2 d1) (by rw [← Bool.not_eq_true, onB_iff]; exact d2)
    · exact edg_40a rl rk rkey rval pl pk pa pn pkey ec eb ef es w (by rw [← Bool.not_eq_true, onB_iff]; exact d1)
  · rw [if_neg c4]
    have d1 : onB ec = true := (onB_iff _).2 (Classical.byContradiction fun q => c4 (.inl q))
    have d2 : onB eb = true := (onB_iff _).2 (Classical.byContradiction fun q => c4 (.inr (.inl q)))
    have d3 : onB ef = true := (onB_iff _).2 (Classical.byContradiction fun q => c4 (.inr (.inr q)))
    obtain ⟨b, hb1, hb2⟩ := neq_any ⟨4, ⟨rl, rk, rkey, rval⟩, ⟨pl, pk, pa, pn, pkey⟩, ⟨ec, eb, ef, es⟩⟩ ⟨4, zr, zp, ⟨ec, eb, ef, es⟩⟩
    rw [ite_ne hb2]
    cases b
    · exact edg_en rl rk rkey rval pl pk pa pn pkey ec eb ef es w d1 d2 d3 hb1
    · exact edg_ey rl rk rkey rval pl pk pa pn pkey ec eb ef es w d1 d2 d3 hb1
set_option maxRecDepth 100000 in
set_option maxHeartbeats 2000000 in
theorem refusal_is (f : Fr) (w : World) : Calls Tryz.prog 74 #[.agg (fv f)] w fun e w' => e = .returned (.int .i64 (rf f : Int)) ∧ Below w.heap.size w w' := by
  have H1 := hd (recRef_is f)
  have H2 := hd (fun w h => ptrRef_is f w h)
  have H3 := hd (fun w h => edgRef_is f w h)
  unfold rf
  obtain ⟨k, ⟨rl, rk, rkey, rval⟩, ⟨pl, pk, pa, pn, pkey⟩, ⟨ec, eb, ef, es⟩⟩ := f
  simp only
  unfold fv at *
  simp only at *
  by_cases c12 : k = 1 ∨ k = 2
  · rw [if_pos c12]
    generalize rfR _ = code at *
    rcases c12 with rfl | rfl
    all_goals (
      go_enter Tryz.func74, Tryz.ntmps74
      go_wp2_with fail
      refine Calls.mono (H1.out _) ?_
      rintro e w' ⟨rfl, hb⟩
      have HB := hd (below_alloc1 hb)
      clear hb
      go_wp2_with fail
      go_ret
      exact ⟨rfl, HB.out⟩)
  · rw [if_neg c12]
    by_cases c3 : k = 3
    · rw [if_pos c3]
      generalize rfP _ = code at *
      subst c3
      go_enter Tryz.func74, Tryz.ntmps74
      go_wp2_with fail
      refine Calls.mono (H2.out _ trivial) ?_
      rintro e w' ⟨rfl, hb⟩
      have HB := hd (below_alloc1 hb)
      clear hb
      go_wp2_with fail
      go_ret
      exact ⟨rfl, HB.out⟩
    · rw [if_neg c3]
      by_cases c4 : k = 4
      · rw [if_pos c4]
        generalize rfE _ = code at *
        subst c4
        go_enter Tryz.func74, Tryz.ntmps74
        go_wp2_with fail
        refine Calls.mono (H3.out _ trivial) ?_
        rintro e w' ⟨rfl, hb⟩
        have HB := hd (below_alloc1 hb)
        clear hb
        go_wp2_with fail
        go_ret
        exact ⟨rfl, HB.out⟩
      · rw [if_neg c4]
        have q1 : ¬ k = 1 := fun q => c12 (.inl q)
        have q2 : ¬ k = 2 := fun q => c12 (.inr q)
        go_enter Tryz.func74, Tryz.ntmps74
        go_wp2_with fail
        go_ret
        exact ⟨rfl, (Below.refl _ _).alloc (Nat.le_refl _) _⟩
end Vt
end Go.Proofs.YtolddolfpnkndaaGreat
namespace Go.Proofs.YtolddolfpnkndaaGreat
namespace Vt
def lenRen : Go.Shelf.Ren := ⟨fun | 129 => 77 | n => n, fun | 53 => 35 | 3 => 3 | 4 => 4 | 46 => 153 | 5 => 5 | 9 => 9 | n => n, fun | n => n⟩
theorem lenLays : Go.Proofs.Lays.n129 Tryz.prog lenRen := {
  mixed := by kernel_rfl
  f129 := Tryz.func77.trans (congrArg some (by kernel_rfl))
  t3 := Tryz.underlying3
  a3 := Tryz.isAgg3
  z3 := Tryz.sizeOf3
  v3 := Tryz.zeroValue3
  t4 := Tryz.underlying4
  a4 := Tryz.isAgg4
  z4 := Tryz.sizeOf4
  v4 := Tryz.zeroValue4
  t5 := Tryz.underlying5
  a5 := Tryz.isAgg5
  z5 := Tryz.sizeOf5
  v5 := Tryz.zeroValue5
  t9 := Tryz.underlying9
  a9 := Tryz.isAgg9
  z9 := Tryz.sizeOf9
  v9 := Tryz.zeroValue9
  t46 := Tryz.underlying153
  a46 := Tryz.isAgg153
  z46 := Tryz.sizeOf153
  v46 := Tryz.zeroValue153
  t53 := Tryz.underlying35
  a53 := Tryz.isAgg35
  z53 := Tryz.sizeOf35
  v53 := Tryz.zeroValue35 }
theorem len64_is (x : Nat) (w : World) (h : x < 18446744073709551616) :
    Calls Tryz.prog 77 #[.int .u64 (x : Int)] w fun e w' => e = .returned (.int .i64 ((Lib.bitLen x : Nat) : Int)) ∧ w' = w := Any.bits_Len64 lenLays (x : Int) w (by omega) (by omega)
end Vt
end Go.Proofs.YtolddolfpnkndaaGreat
namespace Go.Proofs.YtolddolfpnkndaaGreat
open Go.RowKit
namespace Vt
set_option maxHeartbeats 400000 in
theorem ended_is (n k c : Nat) (w : World) (hk : k ≤ 10) (hc : c < 256) :
    Calls Tryz.prog 142 #[.int .u64 (n : Int), .int .i64 (k : Int), .int .u8 (c : Int)] w fun e w' => e = .returned (.tuple (if k = 10 ∧ 1 < c then #[.int .u64 0, .int .i64 0, .int .i64 22] else if 1 < k ∧ c = 0 then #[.int .u64 0, .int .i64 0, .int .i64 23] else #[.int .u64 (n : Int), .int .i64 (k : Int), .int .i64 0])) ∧ w' = w := by
  by_cases h1 : k = 10
  · subst h1
    by_cases h2 : 1 < c
    · rw [if_pos ⟨rfl, h2⟩]
      go_enter Tryz.func142, Tryz.ntmps142
      go_wp2
      go_ret3
      exact ⟨rfl, rfl⟩
    · rw [if_neg (by omega)]
      by_cases h3 : c = 0
      · subst h3
        rw [if_pos (by omega)]
        go_enter Tryz.func142, Tryz.ntmps142
        go_wp2
        go_ret3
        exact ⟨rfl, rfl⟩
      · obtain rfl : c = 1 := by omega
        rw [if_neg (by omega)]
        go_enter Tryz.func142, Tryz.ntmps142
        go_wp2
        go_ret3
        exact ⟨rfl, rfl⟩
  · rw [if_neg (by omega)]
    by_cases h2 : 1 < k
    · by_cases h3 : c = 0
      · subst h3
        rw [if_pos (by omega)]
        go_enter Tryz.func142, Tryz.ntmps142
        go_wp2
        go_ret3
        exact ⟨rfl, rfl⟩
      · rw [if_neg (by omega)]
        go_enter Tryz.func142, Tryz.ntmps142
        go_wp2
        go_ret3
        exact ⟨rfl, rfl⟩
    · rw [if_neg (by omega)]
      go_enter Tryz.func142, Tryz.ntmps142
      go_wp2
      go_ret3
      exact ⟨rfl, rfl⟩
/-- the varints of all numbers, one behind the other -/
def enc (l : List Nat) : List Nat := (l.map vrt).flatten
def N64 (l : List Nat) : Prop := ∀ x ∈ l, x < 18446744073709551616
theorem enc_cons (x : Nat) (l : List Nat) : enc (x :: l) = vrt x ++ enc l := by simp [enc]
theorem enc_append (a b : List Nat) : enc (a ++ b) = enc a ++ enc b := by simp [enc]
theorem enc_one (x : Nat) : enc [x] = vrt x := by simp [enc]
theorem enc_succ {l : List Nat} {k : Nat} (h : k < l.length) : enc (l.take (k + 1)) = enc (l.take k) ++ vrt (l.getD k 0) := by
  rw [take_succ_getD h, enc_append, enc_one]
theorem N64.at {l : List Nat} (h : N64 l) (k : Nat) : l.getD k 0 < 18446744073709551616 := by
  rw [List.getD_eq_getElem?_getD]
  cases e : l[k]? with
  | none => simp
  | some x => exact h x (List.mem_of_getElem? e)
theorem enc_len {l : List Nat} (h : N64 l) : (enc l).length ≤ 10 * l.length := by
  induction l with
  | nil => simp [enc]
  | cons x l ih =>
    rw [enc_cons, List.length_append, List.length_cons]
    have := vrt_ten (h x List.mem_cons_self)
    have := ih fun y hy => h y (List.mem_cons_of_mem _ hy)
    omega
theorem N64.take {l : List Nat} (h : N64 l) (k : Nat) : N64 (l.take k) := fun x hx => h x (List.mem_of_mem_take hx)
theorem len64_any (z : Int) (x : Nat) (w : World) (hz : z = (x : Int)) (h : x < 18446744073709551616) :
    Calls Tryz.prog 77 #[.int .u64 z] w fun e w' => e = .returned (.int .i64 ((Lib.bitLen x : Nat) : Int)) ∧ w' = w := by
  subst hz; exact len64_is x w h
set_option maxRecDepth 100000 in
set_option maxHeartbeats 400000 in
theorem size_row (b off c : Nat) (l : List Nat) (w : World) (hl : N64 l) (hr : RowK .u64 w b off l) (hm : l.length ≤ 140737488355328) :
    Calls Tryz.prog 101 #[.slice (some ⟨b, off, none⟩) l.length c] w fun e w' => e = .returned (.int .i64 (((enc l).length : Nat) : Int)) ∧ w' = w := by
  have HR := hd hr
  have HL := hd hl
  clear hr hl
  go_enter Tryz.func101, Tryz.ntmps101
  go_wp2
  go_loop [3, 8] (fun s i => ∃ k : Nat, k ≤ l.length ∧ i = .int .i64 (k : Int) ∧ s = .int .i64 (((enc (l.take k)).length : Nat) : Int)) (fun _ i => l.length - (intOf i).toNat)
  case atStart => exact ⟨0, by omega, rfl, rfl⟩
  case round =>
    obtain ⟨k, hk, rfl, rfl⟩ := hrel
    have hb := enc_len (HL.out.take k)
    rw [List.length_take] at hb
    by_cases hlt : k < l.length
    · have hc := HR.out k hlt
      have hx := HL.out.at k
      have HE := hd (enc_succ hlt)
      have HS := hd (size_vrt hx)
      have h10 := vrt_ten hx
      have hor : l.getD k 0 ||| 1 < 18446744073709551616 := Nat.or_lt_two_pow (n := 64) hx (by decide)
      have e := u64_or_nat (l.getD k 0) 1 hx (by decide)
      have hbl := bl_le hor
      generalize l.getD k 0 = x at *
      generalize hs : (enc (l.take k)).length = s at *
      have HSS := hd hs
      clear hs
      go_wp2_with fail
      refine Calls.mono (len64_any _ (x ||| 1) w (by first | exact e | (rw [← e]; rfl)) hor) ?_
      rintro e w' ⟨rfl, rfl⟩
      go_wp2_with fail
      go_roundw
      case rel =>
        refine ⟨k + 1, by omega, by go_num, ?_⟩
        rw [HE.out, List.length_append, ← HS.out, HSS.out]
        congr 1
        omega
      case measure => simp [intOf]; omega
    · obtain rfl : k = l.length := by omega
      go_wp2
      go_ret
      exact ⟨rfl, rfl⟩
set_option maxRecDepth 100000 in
set_option maxHeartbeats 400000 in
theorem size_nil (a : Option Addr) (c : Nat) (w : World) :
    Calls Tryz.prog 101 #[.slice a 0 c] w fun e w' => e = .returned (.int .i64 0) ∧ w' = w := by
  go_enter Tryz.func101, Tryz.ntmps101
  go_wp2
  go_loop [3, 8] (fun s i => i = .int .i64 0 ∧ s = .int .i64 0) (fun _ _ => 0)
  case atStart => exact ⟨rfl, rfl⟩
  case round =>
    obtain ⟨rfl, rfl⟩ := hrel
    go_wp2
    go_ret
    exact ⟨rfl, rfl⟩
end Vt
end Go.Proofs.YtolddolfpnkndaaGreat
