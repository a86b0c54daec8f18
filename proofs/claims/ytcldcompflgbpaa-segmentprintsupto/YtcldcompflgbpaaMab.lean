/-
  BYTES AS A STRING, A STRING'S BYTES. No program here.
  FRAMES, PLAINLY: what a frame has, why it may not be, its body, how a body is taken apart. No program here.
-/
import Derived.Test.YtcldcompflgbpaaMaa
namespace Go.Proofs.Ytcldcompflgbpaa
namespace Vt
/-- bytes as a string -/
def str (l : List Nat) : ByteArray := (l.map fun x => ((x : Nat) : Int)).foldl (fun r n => r.push (UInt8.ofNat n.toNat)) ByteArray.empty
theorem str_data (l : List Nat) : (str l).data = (l.map UInt8.ofNat).toArray := by
  have key : ∀ (l : List Nat) (r : ByteArray), ((l.map fun x => ((x : Nat) : Int)).foldl (fun r n => r.push (UInt8.ofNat n.toNat)) r).data = r.data ++ (l.map UInt8.ofNat).toArray := by
    intro l
    induction l with
    | nil => intro r; simp
    | cons x q ih =>
      intro r
      simp only [List.map_cons, List.foldl_cons, Int.toNat_natCast]
      rw [ih]
      simp [ByteArray.push]
  have := key l ByteArray.empty
  unfold str
  rw [this]; simp
/-- a string's bytes -/
def bl (s : ByteArray) : List Nat := s.data.toList.map UInt8.toNat
theorem bl_len (s : ByteArray) : (bl s).length = s.size := by unfold bl; rw [List.length_map, Array.length_toList]; rfl
theorem bl_byt (s : ByteArray) : Byt (bl s) := by
  intro x hx
  unfold bl at hx
  obtain ⟨y, _, rfl⟩ := List.mem_map.1 hx
  exact y.toNat_lt
theorem bl_str {l : List Nat} (h : Byt l) : bl (str l) = l := by
  unfold bl
  rw [str_data, List.map_map]
  induction l with
  | nil => rfl
  | cons x q ih =>
    have hx := h x List.mem_cons_self
    rw [List.map_cons, ih fun z hz => h z (List.mem_cons_of_mem _ hz)]
    congr 1
    simp only [Function.comp, UInt8.toNat_ofNat']
    omega
theorem str_bl (s : ByteArray) : str (bl s) = s := by
  refine ByteArray.ext ?_
  rw [str_data]
  unfold bl
  rw [List.map_map, show (UInt8.ofNat ∘ UInt8.toNat) = id by funext y; simp]
  simp
theorem bl_inj {s t : ByteArray} (h : bl s = bl t) : s = t := by rw [← str_bl s, h, str_bl]
theorem str_size {l : List Nat} (h : Byt l) : (str l).size = l.length := by rw [← bl_len, bl_str h]
theorem str_inj {la lb : List Nat} (ha : Byt la) (hb : Byt lb) : str la = str lb ↔ la = lb := by
  constructor
  · intro h
    have h2 := congrArg ByteArray.data h
    rw [str_data, str_data] at h2
    have h3 : la.map UInt8.ofNat = lb.map UInt8.ofNat := by simpa using h2
    clear h h2
    induction la generalizing lb with
    | nil => cases lb with
      | nil => rfl
      | cons y r => simp at h3
    | cons x q ih =>
      cases lb with
      | nil => simp at h3
      | cons y r =>
        simp only [List.map_cons, List.cons.injEq] at h3
        have hx := ha x List.mem_cons_self
        have hy := hb y List.mem_cons_self
        have e := congrArg UInt8.toNat h3.1
        simp only [UInt8.toNat_ofNat'] at e
        rw [ih (fun z hz => ha z (List.mem_cons_of_mem _ hz)) (fun z hz => hb z (List.mem_cons_of_mem _ hz)) h3.2]
        congr 1
        omega
  · intro h; rw [h]
end Vt
end Go.Proofs.Ytcldcompflgbpaa
namespace Go.Proofs.Ytcldcompflgbpaa
namespace Vt
structure Rec where
  lsn : Nat
  kind : Int
  key : ByteArray
  val : ByteArray
structure Ptr where
  lsn : Nat
  kind : Int
  at_ : Int
  len : Int
  key : ByteArray
structure Edg where
  count : Int
  bytes : Int
  frames : Int
  sum : Nat
structure Fr where
  kind : Int
  r : Rec
  p : Ptr
  e : Edg
def zr : Rec := ⟨0, 0, ByteArray.empty, ByteArray.empty⟩
def zp : Ptr := ⟨0, 0, 0, 0, ByteArray.empty⟩
def ze : Edg := ⟨0, 0, 0, 0⟩
def zf : Fr := ⟨0, zr, zp, ze⟩
/-- as the types have it -/
def Fr.Wf (f : Fr) : Prop := f.r.lsn < 18446744073709551616 ∧ f.p.lsn < 18446744073709551616 ∧ f.e.sum < 4294967296
def ofR (r : Rec) : Fr := ⟨r.kind, r, zp, ze⟩
def mayKey (s : ByteArray) : Prop := 1 ≤ s.size ∧ s.size ≤ 64
def onD (n : Int) : Prop := 0 ≤ n ∧ n ≤ 4194304
open Classical in
noncomputable def rfR (f : Fr) : Nat := if f.r.kind ≠ f.kind then 46 else if f.r.lsn = 0 then 47 else if ¬ mayKey f.r.key then 48 else if (if f.r.kind = 2 then 0 else 2048) < f.r.val.size then 49 else if f ≠ ofR f.r then 40 else 0
open Classical in
noncomputable def rfP (f : Fr) : Nat := if f.p.kind ≠ 1 ∧ f.p.kind ≠ 2 then 46 else if f.p.lsn = 0 then 47 else if ¬ mayKey f.p.key then 48 else if ¬ onD f.p.at_ ∨ ¬ onD f.p.len ∨ f.p.len = 0 then 40 else if f ≠ ⟨3, zr, f.p, ze⟩ then 40 else 0
open Classical in
noncomputable def rfE (f : Fr) : Nat := if ¬ onD f.e.count ∨ ¬ onD f.e.bytes ∨ ¬ onD f.e.frames then 40 else if f ≠ ⟨4, zr, zp, f.e⟩ then 40 else 0
/-- why a frame may not be -/
noncomputable def rf (f : Fr) : Nat := if f.kind = 1 ∨ f.kind = 2 then rfR f else if f.kind = 3 then rfP f else if f.kind = 4 then rfE f else 46
theorem rfR_ok {f : Fr} (h : rfR f = 0) : f.r.kind = f.kind ∧ f.r.lsn ≠ 0 ∧ mayKey f.r.key ∧ f.r.val.size ≤ (if f.r.kind = 2 then 0 else 2048) ∧ f = ofR f.r := by
  unfold rfR at h
  by_cases a : f.r.kind ≠ f.kind
  · rw [if_pos a] at h; omega
  · rw [if_neg a] at h
    by_cases b : f.r.lsn = 0
    · rw [if_pos b] at h; omega
    · rw [if_neg b] at h
      by_cases c : ¬ mayKey f.r.key
      · rw [if_pos c] at h; omega
      · rw [if_neg c] at h
        by_cases d : (if f.r.kind = 2 then 0 else 2048) < f.r.val.size
        · rw [if_pos d] at h; omega
        · rw [if_neg d] at h
          by_cases e : f ≠ ofR f.r
          · rw [if_pos e] at h; omega
          · exact ⟨Classical.not_not.1 a, b, Classical.not_not.1 c, Nat.le_of_not_lt d, Classical.not_not.1 e⟩
theorem rfP_ok {f : Fr} (h : rfP f = 0) : (f.p.kind = 1 ∨ f.p.kind = 2) ∧ f.p.lsn ≠ 0 ∧ mayKey f.p.key ∧ onD f.p.at_ ∧ onD f.p.len ∧ f.p.len ≠ 0 ∧ f = ⟨3, zr, f.p, ze⟩ := by
  unfold rfP at h
  split at h
  · omega
  · split at h
    · omega
    · split at h
      · omega
      · split at h
        · omega
        · split at h
          · omega
          · rename_i a b c d e
            refine ⟨by omega, b, Classical.not_not.1 c, ?_, ?_, ?_, Classical.not_not.1 e⟩
            · exact Classical.byContradiction fun q => d (.inl q)
            · exact Classical.byContradiction fun q => d (.inr (.inl q))
            · exact fun q => d (.inr (.inr q))
theorem rfE_ok {f : Fr} (h : rfE f = 0) : onD f.e.count ∧ onD f.e.bytes ∧ onD f.e.frames ∧ f = ⟨4, zr, zp, f.e⟩ := by
  unfold rfE at h
  split at h
  · omega
  · split at h
    · omega
    · rename_i d e
      refine ⟨?_, ?_, ?_, Classical.not_not.1 e⟩
      · exact Classical.byContradiction fun q => d (.inl q)
      · exact Classical.byContradiction fun q => d (.inr (.inl q))
      · exact Classical.byContradiction fun q => d (.inr (.inr q))
/-- the varints of all numbers, one behind the other -/
def vs (l : List Nat) : List Nat := (l.map vrt).flatten
/-- a body, in its parts -/
def bp (f : Fr) : List (List Nat) :=
  if f.kind = 1 then [[1], vs [f.r.lsn, f.r.key.size], bl f.r.key, bl f.r.val]
  else if f.kind = 2 then [[2], vs [f.r.lsn], bl f.r.key]
  else if f.kind = 3 then [[3], vs [f.p.lsn], [f.p.kind.toNat], vs [f.p.at_.toNat, f.p.len.toNat], bl f.p.key]
  else [[4], vs [f.e.count.toNat, f.e.bytes.toNat, f.e.frames.toNat, f.e.sum]]
def bd (f : Fr) : List Nat := (bp f).flatten
abbrev RS := List Nat × Bool
def rNum (m : Nat) (s : RS) : Nat × RS := if (dec s.1).2.2 = 0 ∧ (dec s.1).1 ≤ m then ((dec s.1).1, (s.1.drop (dec s.1).2.1, s.2)) else (0, (s.1, true))
def rKind (s : RS) : Nat × RS := if s.1 = [] then (0, (s.1, true)) else (s.1.getD 0 0, (s.1.drop 1, s.2))
def rText (c : Nat) (s : RS) : ByteArray × RS := if s.1.length < c then (ByteArray.empty, (s.1, true)) else (str (s.1.take c), (s.1.drop c, s.2))
def rRest (s : RS) : ByteArray × RS := rText s.1.length s
def rPtr (s : RS) : Ptr × RS :=
  let a := rNum 18446744073709551615 s
  let k := rKind a.2
  let b := rNum 4194304 k.2
  let c := rNum 4194304 b.2
  let t := rRest c.2
  (⟨a.1, (k.1 : Int), (b.1 : Int), (c.1 : Int), t.1⟩, t.2)
def rEdg (s : RS) : Edg × RS :=
  let a := rNum 4194304 s
  let b := rNum 4194304 a.2
  let c := rNum 4194304 b.2
  let d := rNum 4294967295 c.2
  (⟨(a.1 : Int), (b.1 : Int), (c.1 : Int), d.1⟩, d.2)
def rPut (s : RS) : Rec × RS :=
  let a := rNum 18446744073709551615 s
  let c := rNum 64 a.2
  let t := rText c.1 c.2
  let v := rRest t.2
  (⟨a.1, 1, t.1, v.1⟩, v.2)
def rDel (s : RS) : Rec × RS :=
  let a := rNum 18446744073709551615 s
  let t := rRest a.2
  (⟨a.1, 2, t.1, ByteArray.empty⟩, t.2)
/-- a body taken apart -/
def prs (s : RS) : Fr × RS :=
  let k := rKind s
  if k.1 = 1 then (⟨1, (rPut k.2).1, zp, ze⟩, (rPut k.2).2)
  else if k.1 = 2 then (⟨2, (rDel k.2).1, zp, ze⟩, (rDel k.2).2)
  else if k.1 = 3 then (⟨3, zr, (rPtr k.2).1, ze⟩, (rPtr k.2).2)
  else if k.1 = 4 then (⟨4, zr, zp, (rEdg k.2).1⟩, (rEdg k.2).2)
  else (⟨(k.1 : Int), zr, zp, ze⟩, k.2)
theorem rNum_vrt {n m : Nat} (h : n < 18446744073709551616) (hm : n ≤ m) (r : List Nat) (b : Bool) : rNum m (vrt n ++ r, b) = (n, (r, b)) := by
  unfold rNum
  rw [dec_vrt h, if_pos ⟨rfl, hm⟩]
  simp
theorem rNum_ok {m : Nat} {s : RS} (hb : Byt s.1) (h : (rNum m s).2.2 = false) : s.2 = false ∧ s.1 = vrt (rNum m s).1 ++ (rNum m s).2.1 ∧ (rNum m s).1 ≤ m ∧ (rNum m s).1 < 18446744073709551616 ∧ Byt (rNum m s).2.1 := by
  unfold rNum at h ⊢
  split at h
  · rename_i hc
    rw [if_pos hc]
    obtain ⟨h1, h2, h3, h4, h5, h6⟩ := dec_ok (l := s.1) (n := (dec s.1).1) (k := (dec s.1).2.1) hb (by rw [← hc.1])
    exact ⟨h, by simp only [h1]; rw [List.take_append_drop], hc.2, h5, byt_drop hb _⟩
  · simp at h
theorem rKind_ok {s : RS} (hb : Byt s.1) (h : (rKind s).2.2 = false) : s.2 = false ∧ s.1 = (rKind s).1 :: (rKind s).2.1 ∧ (rKind s).1 < 256 ∧ Byt (rKind s).2.1 := by
  unfold rKind at h ⊢
  split at h
  · simp at h
  · rename_i hc
    rw [if_neg hc]
    obtain ⟨l, b⟩ := s
    cases l with
    | nil => simp at hc
    | cons x t => exact ⟨h, rfl, hb x List.mem_cons_self, fun y hy => hb y (List.mem_cons_of_mem _ hy)⟩
theorem rText_ok {c : Nat} {s : RS} (hb : Byt s.1) (h : (rText c s).2.2 = false) : s.2 = false ∧ s.1 = bl (rText c s).1 ++ (rText c s).2.1 ∧ (rText c s).1.size = c ∧ Byt (rText c s).2.1 := by
  unfold rText at h ⊢
  split at h
  · simp at h
  · rename_i hc
    rw [if_neg hc]
    refine ⟨h, ?_, ?_, byt_drop hb _⟩
    · simp only [bl_str (byt_take hb c)]; rw [List.take_append_drop]
    · simp only [str_size (byt_take hb c)]; rw [List.length_take]; omega
theorem rRest_ok {s : RS} (hb : Byt s.1) (h : (rRest s).2.2 = false) : s.2 = false ∧ s.1 = bl (rRest s).1 ∧ (rRest s).2.1 = [] := by
  obtain ⟨h1, h2, _, _⟩ := rText_ok hb h
  have h3 : (rRest s).2.1 = [] := by unfold rRest rText; rw [if_neg (by omega)]; simp
  refine ⟨h1, ?_, h3⟩
  unfold rRest at h3 ⊢
  rw [h3, List.append_nil] at h2
  exact h2
theorem rText_bl (s : ByteArray) (r : List Nat) (b : Bool) : rText s.size (bl s ++ r, b) = (s, (r, b)) := by
  unfold rText
  rw [if_neg (by rw [List.length_append, bl_len]; omega)]
  simp only
  rw [← bl_len s, List.take_left, List.drop_left, str_bl]
theorem rRest_bl (s : ByteArray) (b : Bool) : rRest (bl s, b) = (s, ([], b)) := by
  have := rText_bl s [] b
  rw [List.append_nil] at this
  unfold rRest
  simp only
  rw [bl_len]; exact this
theorem vs_cons (x : Nat) (l r : List Nat) : vs (x :: l) ++ r = vrt x ++ (vs l ++ r) := by simp [vs]
theorem vs_nil (r : List Nat) : vs [] ++ r = r := rfl
theorem rKind_cons (x : Nat) (r : List Nat) (b : Bool) : rKind (x :: r, b) = (x, (r, b)) := by unfold rKind; rw [if_neg (by simp)]; rfl
/-- what was written is read -/
theorem prs_bd {f : Fr} (hw : f.Wf) (h : rf f = 0) : prs (bd f, false) = (f, ([], false)) := by
  obtain ⟨w1, w2, w3⟩ := hw
  unfold rf at h
  by_cases c12 : f.kind = 1 ∨ f.kind = 2
  · rw [if_pos c12] at h
    obtain ⟨h1, h2, h3, h4, h5⟩ := rfR_ok h
    obtain ⟨k, ⟨lsn, rk, key, val⟩, p, e⟩ := f
    unfold ofR at h5
    injection h5 with e1 e2 e3 e4
    simp only at *
    subst e3 e4
    rcases c12 with rfl | rfl
    · subst h1
      have hb : bd ⟨1, ⟨lsn, 1, key, val⟩, zp, ze⟩ = 1 :: (vrt lsn ++ (vrt key.size ++ (bl key ++ bl val))) := by
        unfold bd bp; rw [if_pos rfl]
        simp [vs]
      rw [hb]
      unfold prs
      rw [rKind_cons]
      simp only [if_pos]
      unfold rPut
      rw [rNum_vrt w1 (by omega)]
      simp only
      rw [rNum_vrt (by have := h3.2; omega) h3.2]
      simp only
      rw [rText_bl]
      simp only
      rw [rRest_bl]
    · subst h1
      rw [if_pos rfl] at h4
      have hv : val = ByteArray.empty := by
        refine bl_inj (List.length_eq_zero_iff.1 ?_)
        rw [bl_len]; omega
      subst hv
      have hb : bd ⟨2, ⟨lsn, 2, key, ByteArray.empty⟩, zp, ze⟩ = 2 :: (vrt lsn ++ bl key) := by
        unfold bd bp; rw [if_neg (by simp), if_pos rfl]
        simp [vs]
      rw [hb]
      unfold prs
      rw [rKind_cons]
      simp only [if_neg (show ¬ (2 = 1) by omega), if_pos]
      unfold rDel
      rw [rNum_vrt w1 (by omega)]
      simp only
      rw [rRest_bl]
  · rw [if_neg c12] at h
    by_cases c3 : f.kind = 3
    · rw [if_pos c3] at h
      obtain ⟨h1, h2, h3, h4, h5, h6, h7⟩ := rfP_ok h
      obtain ⟨k, r, ⟨lsn, pk, at_, len, key⟩, e⟩ := f
      injection h7 with e1 e2 e3 e4
      simp only at *
      subst e1 e2 e4
      obtain ⟨a, rfl⟩ : ∃ a : Nat, at_ = (a : Int) := ⟨at_.toNat, by have := h4.1; omega⟩
      obtain ⟨n, rfl⟩ : ∃ n : Nat, len = (n : Int) := ⟨len.toNat, by have := h5.1; omega⟩
      obtain ⟨q, rfl⟩ : ∃ q : Nat, pk = (q : Int) := ⟨pk.toNat, by omega⟩
      have hb : bd ⟨3, zr, ⟨lsn, (q : Int), (a : Int), (n : Int), key⟩, ze⟩ = 3 :: (vrt lsn ++ (q :: (vrt a ++ (vrt n ++ bl key)))) := by
        unfold bd bp; rw [if_neg (by simp), if_neg (by simp), if_pos rfl]
        simp [vs]
      rw [hb]
      unfold prs
      rw [rKind_cons]
      simp only [if_neg (show ¬ (3 = 1) by omega), if_neg (show ¬ (3 = 2) by omega), if_pos]
      unfold rPtr
      rw [rNum_vrt w2 (by omega)]
      simp only
      rw [rKind_cons]
      simp only
      rw [rNum_vrt (by have := h4.2; omega) (by have := h4.2; omega)]
      simp only
      rw [rNum_vrt (by have := h5.2; omega) (by have := h5.2; omega)]
      simp only
      rw [rRest_bl]
    · rw [if_neg c3] at h
      by_cases c4 : f.kind = 4
      · rw [if_pos c4] at h
        obtain ⟨h1, h2, h3, h4⟩ := rfE_ok h
        obtain ⟨k, r, p, ⟨ct, by_, fr, sm⟩⟩ := f
        injection h4 with e1 e2 e3 e4
        simp only at *
        subst e1 e2 e3
        obtain ⟨a, rfl⟩ : ∃ a : Nat, ct = (a : Int) := ⟨ct.toNat, by have := h1.1; omega⟩
        obtain ⟨n, rfl⟩ : ∃ n : Nat, by_ = (n : Int) := ⟨by_.toNat, by have := h2.1; omega⟩
        obtain ⟨q, rfl⟩ : ∃ q : Nat, fr = (q : Int) := ⟨fr.toNat, by have := h3.1; omega⟩
        have hb : bd ⟨4, zr, zp, ⟨(a : Int), (n : Int), (q : Int), sm⟩⟩ = 4 :: (vrt a ++ (vrt n ++ (vrt q ++ (vrt sm ++ [])))) := by
          unfold bd bp; rw [if_neg (by simp), if_neg (by simp), if_neg (by simp)]
          simp [vs]
        rw [hb]
        unfold prs
        rw [rKind_cons]
        simp only [if_neg (show ¬ (4 = 1) by omega), if_neg (show ¬ (4 = 2) by omega), if_neg (show ¬ (4 = 3) by omega), if_pos]
        unfold rEdg
        rw [rNum_vrt (by have := h1.2; omega) (by have := h1.2; omega)]
        simp only
        rw [rNum_vrt (by have := h2.2; omega) (by have := h2.2; omega)]
        simp only
        rw [rNum_vrt (by have := h3.2; omega) (by have := h3.2; omega)]
        simp only
        rw [rNum_vrt (by omega) (by omega)]
      · rw [if_neg c4] at h; omega
theorem rNum_byt (m : Nat) {s : RS} (hb : Byt s.1) : Byt (rNum m s).2.1 := by
  unfold rNum; split
  · exact byt_drop hb _
  · exact hb
theorem rKind_byt {s : RS} (hb : Byt s.1) : Byt (rKind s).2.1 := by
  unfold rKind; split
  · exact hb
  · exact byt_drop hb _
theorem rText_byt (c : Nat) {s : RS} (hb : Byt s.1) : Byt (rText c s).2.1 := by
  unfold rText; split
  · exact hb
  · exact byt_drop hb _
theorem rPut_ok {s : RS} (hb : Byt s.1) (h : (rPut s).2.2 = false) : s.2 = false ∧ (rPut s).2.1 = [] ∧ (rPut s).1.kind = 1 ∧ s.1 = vrt (rPut s).1.lsn ++ (vrt (rPut s).1.key.size ++ (bl (rPut s).1.key ++ bl (rPut s).1.val)) ∧ (rPut s).1.lsn < 18446744073709551616 := by
  unfold rPut at h ⊢
  simp only at h ⊢
  have b1 := rNum_byt 18446744073709551615 hb
  have b2 := rNum_byt 64 b1
  have b3 := rText_byt (rNum 64 (rNum 18446744073709551615 s).2).1 b2
  obtain ⟨d1, d2, d3⟩ := rRest_ok b3 h
  obtain ⟨c1, c2, c3, _⟩ := rText_ok b2 d1
  obtain ⟨q1, q2, _⟩ := rNum_ok b1 c1
  obtain ⟨p1, p2, p3, p4, _⟩ := rNum_ok hb q1
  refine ⟨p1, d3, trivial, ?_, p4⟩
  rw [← d2, c3, ← c2, ← q2, ← p2]
theorem rDel_ok {s : RS} (hb : Byt s.1) (h : (rDel s).2.2 = false) : s.2 = false ∧ (rDel s).2.1 = [] ∧ (rDel s).1.kind = 2 ∧ (rDel s).1.val = ByteArray.empty ∧ s.1 = vrt (rDel s).1.lsn ++ bl (rDel s).1.key ∧ (rDel s).1.lsn < 18446744073709551616 := by
  unfold rDel at h ⊢
  simp only at h ⊢
  have b1 := rNum_byt 18446744073709551615 hb
  obtain ⟨d1, d2, d3⟩ := rRest_ok b1 h
  obtain ⟨p1, p2, p3, p4, _⟩ := rNum_ok hb d1
  refine ⟨p1, d3, trivial, trivial, ?_, p4⟩
  rw [← d2, ← p2]
theorem rPtr_ok {s : RS} (hb : Byt s.1) (h : (rPtr s).2.2 = false) : s.2 = false ∧ (rPtr s).2.1 = [] ∧ s.1 = vrt (rPtr s).1.lsn ++ ((rPtr s).1.kind.toNat :: (vrt (rPtr s).1.at_.toNat ++ (vrt (rPtr s).1.len.toNat ++ bl (rPtr s).1.key))) ∧ (rPtr s).1.lsn < 18446744073709551616 := by
  unfold rPtr at h ⊢
  simp only [Int.toNat_natCast] at h ⊢
  have b1 := rNum_byt 18446744073709551615 hb
  have b2 := rKind_byt b1
  have b3 := rNum_byt 4194304 b2
  have b4 := rNum_byt 4194304 b3
  obtain ⟨d1, d2, d3⟩ := rRest_ok b4 h
  obtain ⟨c1, c2, _⟩ := rNum_ok b3 d1
  obtain ⟨e1, e2, _⟩ := rNum_ok b2 c1
  obtain ⟨q1, q2, _⟩ := rKind_ok b1 e1
  obtain ⟨p1, p2, p3, p4, _⟩ := rNum_ok hb q1
  refine ⟨p1, d3, ?_, p4⟩
  rw [← d2, ← c2, ← e2, ← q2, ← p2]
theorem rEdg_ok {s : RS} (hb : Byt s.1) (h : (rEdg s).2.2 = false) : s.2 = false ∧ s.1 = vrt (rEdg s).1.count.toNat ++ (vrt (rEdg s).1.bytes.toNat ++ (vrt (rEdg s).1.frames.toNat ++ (vrt (rEdg s).1.sum ++ (rEdg s).2.1))) ∧ (rEdg s).1.sum < 4294967296 := by
  unfold rEdg at h ⊢
  simp only [Int.toNat_natCast] at h ⊢
  have b1 := rNum_byt 4194304 hb
  have b2 := rNum_byt 4194304 b1
  have b3 := rNum_byt 4194304 b2
  obtain ⟨d1, d2, d3, _⟩ := rNum_ok b3 h
  obtain ⟨c1, c2, _⟩ := rNum_ok b2 d1
  obtain ⟨q1, q2, _⟩ := rNum_ok b1 c1
  obtain ⟨p1, p2, p3, p4, _⟩ := rNum_ok hb q1
  refine ⟨p1, ?_, by omega⟩
  rw [← d2, ← c2, ← q2, ← p2]
theorem prs_1 {s : RS} (h : (rKind s).1 = 1) : prs s = (⟨1, (rPut (rKind s).2).1, zp, ze⟩, (rPut (rKind s).2).2) := by unfold prs; simp only; rw [if_pos h]
theorem prs_2 {s : RS} (h : (rKind s).1 = 2) : prs s = (⟨2, (rDel (rKind s).2).1, zp, ze⟩, (rDel (rKind s).2).2) := by unfold prs; simp only; rw [if_neg (by omega), if_pos h]
theorem prs_3 {s : RS} (h : (rKind s).1 = 3) : prs s = (⟨3, zr, (rPtr (rKind s).2).1, ze⟩, (rPtr (rKind s).2).2) := by unfold prs; simp only; rw [if_neg (by omega), if_neg (by omega), if_pos h]
theorem prs_4 {s : RS} (h : (rKind s).1 = 4) : prs s = (⟨4, zr, zp, (rEdg (rKind s).2).1⟩, (rEdg (rKind s).2).2) := by unfold prs; simp only; rw [if_neg (by omega), if_neg (by omega), if_neg (by omega), if_pos h]
theorem prs_5 {s : RS} (h1 : (rKind s).1 ≠ 1) (h2 : (rKind s).1 ≠ 2) (h3 : (rKind s).1 ≠ 3) (h4 : (rKind s).1 ≠ 4) : prs s = (⟨((rKind s).1 : Int), zr, zp, ze⟩, (rKind s).2) := by unfold prs; simp only; rw [if_neg h1, if_neg h2, if_neg h3, if_neg h4]
/-- what is read is what would be written -/
theorem bd_prs {l : List Nat} (hb : Byt l) (h : rf (prs (l, false)).1 = 0) (hl : (prs (l, false)).2.1 = []) (hr : (prs (l, false)).2.2 = false) : bd (prs (l, false)).1 = l ∧ (prs (l, false)).1.Wf := by
  have bk := rKind_byt (s := (l, false)) hb
  by_cases c1 : (rKind (l, false)).1 = 1
  · rw [prs_1 c1] at hl hr ⊢
    simp only at hl hr ⊢
    obtain ⟨p1, p2, p3, p4, p5⟩ := rPut_ok bk hr
    obtain ⟨_, q2, _⟩ := rKind_ok (s := (l, false)) hb p1
    simp only at q2
    refine ⟨?_, p5, (by show 0 < 18446744073709551616; omega), (by show 0 < 4294967296; omega)⟩
    refine Eq.trans ?_ q2.symm
    rw [p4, c1]
    unfold bd bp; rw [if_pos rfl]
    simp [vs]
  · by_cases c2 : (rKind (l, false)).1 = 2
    · rw [prs_2 c2] at hl hr ⊢
      simp only at hl hr ⊢
      obtain ⟨p1, p2, p3, _, p4, p5⟩ := rDel_ok bk hr
      obtain ⟨_, q2, _⟩ := rKind_ok (s := (l, false)) hb p1
      simp only at q2
      refine ⟨?_, p5, (by show 0 < 18446744073709551616; omega), (by show 0 < 4294967296; omega)⟩
      refine Eq.trans ?_ q2.symm
      rw [p4, c2]
      unfold bd bp; rw [if_neg (by simp), if_pos rfl]
      simp [vs]
    · by_cases c3 : (rKind (l, false)).1 = 3
      · rw [prs_3 c3] at hl hr ⊢
        simp only at hl hr ⊢
        obtain ⟨p1, p2, p4, p5⟩ := rPtr_ok bk hr
        obtain ⟨_, q2, _⟩ := rKind_ok (s := (l, false)) hb p1
        simp only at q2
        refine ⟨?_, (by show 0 < 18446744073709551616; omega), p5, (by show 0 < 4294967296; omega)⟩
        refine Eq.trans ?_ q2.symm
        rw [p4, c3]
        unfold bd bp; rw [if_neg (by simp), if_neg (by simp), if_pos rfl]
        simp [vs]
      · by_cases c4 : (rKind (l, false)).1 = 4
        · rw [prs_4 c4] at hl hr ⊢
          simp only at hl hr ⊢
          obtain ⟨p1, p4, p5⟩ := rEdg_ok bk hr
          obtain ⟨_, q2, _⟩ := rKind_ok (s := (l, false)) hb p1
          simp only at q2
          refine ⟨?_, (by show 0 < 18446744073709551616; omega), (by show 0 < 18446744073709551616; omega), p5⟩
          refine Eq.trans ?_ q2.symm
          rw [p4, c4, hl]
          unfold bd bp; rw [if_neg (by simp), if_neg (by simp), if_neg (by simp)]
          simp [vs]
        · rw [prs_5 c1 c2 c3 c4] at h
          unfold rf at h
          simp only at h
          rw [if_neg (by omega), if_neg (by omega), if_neg (by omega)] at h
          omega
/-- a body that may be is short -/
theorem bd_len {f : Fr} (hw : f.Wf) (h : rf f = 0) : (bd f).length ≤ 2200 ∧ 1 ≤ (bd f).length := by
  obtain ⟨w1, w2, w3⟩ := hw
  unfold rf at h
  unfold bd bp
  by_cases c12 : f.kind = 1 ∨ f.kind = 2
  · rw [if_pos c12] at h
    obtain ⟨h1, h2, h3, h4, h5⟩ := rfR_ok h
    have v1 := vrt_ten w1
    have v2 := vrt_ten (n := f.r.key.size) (by have := h3.2; omega)
    have h32 := h3.2
    by_cases c1 : f.kind = 1
    · rw [if_pos c1]
      rw [if_neg (by omega)] at h4
      simp [vs, bl_len]; omega
    · rw [if_neg c1, if_pos (by omega)]
      simp [vs, bl_len]; omega
  · rw [if_neg c12] at h
    rw [if_neg (by omega), if_neg (by omega)]
    by_cases c3 : f.kind = 3
    · rw [if_pos c3] at h ⊢
      obtain ⟨h1, h2, h3, h4, h5, h6, h7⟩ := rfP_ok h
      have v1 := vrt_ten w2
      have v2 := vrt_ten (n := f.p.at_.toNat) (by have := h4.2; omega)
      have v3 := vrt_ten (n := f.p.len.toNat) (by have := h5.2; omega)
      have h32 := h3.2
      simp [vs, bl_len]; omega
    · rw [if_neg c3] at h ⊢
      by_cases c4 : f.kind = 4
      · rw [if_pos c4] at h
        obtain ⟨h1, h2, h3, h4⟩ := rfE_ok h
        have v1 := vrt_ten (n := f.e.count.toNat) (by have := h1.2; omega)
        have v2 := vrt_ten (n := f.e.bytes.toNat) (by have := h2.2; omega)
        have v3 := vrt_ten (n := f.e.frames.toNat) (by have := h3.2; omega)
        have v4 := vrt_ten (n := f.e.sum) (by omega)
        simp [vs]; omega
      · rw [if_neg c4] at h; omega
theorem vs_byt (l : List Nat) : Byt (vs l) := by
  intro x hx
  unfold vs at hx
  obtain ⟨a, ha, hxa⟩ := List.mem_flatten.1 hx
  obtain ⟨n, _, rfl⟩ := List.mem_map.1 ha
  exact vrt_byt n x hxa
theorem bd_byt {f : Fr} (h : rf f = 0) : Byt (bd f) := by
  have one : ∀ k, k < 256 → Byt [k] := by intro k hk x hx; simp at hx; omega
  have key : ∀ p ∈ bp f, Byt p := by
    unfold bp
    unfold rf at h
    by_cases c1 : f.kind = 1
    · rw [if_pos c1]
      intro p hp
      simp only [List.mem_cons, List.not_mem_nil, or_false] at hp
      rcases hp with rfl | rfl | rfl | rfl
      · exact one 1 (by omega)
      · exact vs_byt _
      · exact bl_byt _
      · exact bl_byt _
    · rw [if_neg c1]
      by_cases c2 : f.kind = 2
      · rw [if_pos c2]
        intro p hp
        simp only [List.mem_cons, List.not_mem_nil, or_false] at hp
        rcases hp with rfl | rfl | rfl
        · exact one 2 (by omega)
        · exact vs_byt _
        · exact bl_byt _
      · rw [if_neg c2]
        rw [if_neg (by omega)] at h
        by_cases c3 : f.kind = 3
        · rw [if_pos c3]
          rw [if_pos c3] at h
          have := (rfP_ok h).1
          intro p hp
          simp only [List.mem_cons, List.not_mem_nil, or_false] at hp
          rcases hp with rfl | rfl | rfl | rfl | rfl
          · exact one 3 (by omega)
          · exact vs_byt _
          · exact one _ (by omega)
          · exact vs_byt _
          · exact bl_byt _
        · rw [if_neg c3]
          intro p hp
          simp only [List.mem_cons, List.not_mem_nil, or_false] at hp
          rcases hp with rfl | rfl
          · exact one 4 (by omega)
          · exact vs_byt _
  intro x hx
  obtain ⟨p, hp, hxp⟩ := List.mem_flatten.1 hx
  exact key p hp x hxp
end Vt
end Go.Proofs.Ytcldcompflgbpaa
