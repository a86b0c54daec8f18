/-
  THE WALKS OF slices.Grow (of nil) and slices.Concat of lists of bytes: one row of the call's own, all lists one behind the other.
  FRAMES, PLAINLY: what a frame has, why it may not be, its body, how a body is taken apart. No program here.
-/
import Derived.Test.YtabfgoojhangnaaXeab
import Derived.Lib.AppendZeros
import Derived.Test.YtabfgoojhangnaaXeaa
import Derived.Test.YtabfgoojhangnaaXeah
import Derived.Test.YtabfgoojhangnaaXeaj
namespace Go.Proofs.Ytabfgoojhangnaa
open Go.RowKit
namespace Vt
theorem zeros_jb (w : World) (n cap : Nat) (hn : n ≤ cap) (hm : cap ≤ maxLen) : JB (w.drew.alloc (.cells (Builtin.zeroCells (Value.int .u8 0).cells n ++ Builtin.zeroCells (Value.int .u8 0).cells (cap - n)) 5)) w.heap.size (.slice (some ⟨w.heap.size, 0, none⟩) 0 cap) [] := by
  refine ⟨byt_nil, by simp [bs], .inr ⟨w.heap.size, cap, Builtin.zeroCells (Value.int .u8 0).cells n ++ Builtin.zeroCells (Value.int .u8 0).cells (cap - n), rfl, Nat.le_refl _, ?_, Nat.zero_le _, hm, ?_, by simp [bs]⟩⟩
  · show (w.drew.heap.push _)[w.heap.size]? = _
    rw [show w.heap.size = w.drew.heap.size from rfl, Array.getElem?_push_size]
  · simp [Builtin.zeroCells, Value.cells]; omega
set_option maxRecDepth 100000 in
set_option maxHeartbeats 400000 in
theorem grow_nil (n : Nat) (w : World) (h0 : 0 < n) (hm : n ≤ 140737488355328) :
    Calls Try.prog 58 #[.slice none 0 0, .int .i64 (n : Int)] w fun e w' => ∃ cap, e = .returned (.slice (some ⟨w.heap.size, 0, none⟩) 0 cap) ∧ JB w' w.heap.size (.slice (some ⟨w.heap.size, 0, none⟩) 0 cap) [] ∧ Below w.heap.size w w' := by
  obtain ⟨i0, hi, hz0, hz1, hz2⟩ := info_parts info_u8
  have hrun := fun (ty : TypeId) => Lib.run_append_nil_zeros (P := Try.prog) w 22 3 ty 5 i0 (.int .u8 0) .i64 .i64 Try.underlying22 Try.underlying3 hi hz0 n h0 (by omega) (by omega) (by rw [hz2]; omega)
  have hge := grownCap_ge w n 0 5
  have hle := grownCap_le_maxLen w n 0 5 (by unfold maxLen; omega)
  have HJ := hd (zeros_jb w n _ hge hle)
  have hle2 := hle
  unfold maxLen at hle2
  generalize grownCap w n 0 5 = cap at *
  have HB : Hid (Below w.heap.size w (w.drew.alloc (.cells (Builtin.zeroCells (Value.int .u8 0).cells n ++ Builtin.zeroCells (Value.int .u8 0).cells (cap - n)) 5))) := (below_drewN (Below.refl _ _) 1).alloc (Nat.le_refl _) _
  generalize (w.drew.alloc (.cells (Builtin.zeroCells (Value.int .u8 0).cells n ++ Builtin.zeroCells (Value.int .u8 0).cells (cap - n)) 5)) = w1 at *
  go_enter Try.func58, Try.ntmps58
  go_wp2_with (at_builtin; refine Lib.wpList_append_run _ rfl _ _ _ _ rfl _ _ rfl rfl _ _ (hrun _) ?_)
  go_ret
  exact ⟨cap, rfl, HJ.out, HB.out⟩
/-- a slice of slices of bytes -/
def Ps (w : World) (b off : Nat) (ls : List (List Nat)) : Prop := ∀ i, i < ls.length → ∃ v, w.cell? ⟨b, off + i, none⟩ = some v ∧ IsB w v (ls.getD i [])
theorem ps_succ {ls : List (List Nat)} {k : Nat} (h : k < ls.length) : (ls.take (k + 1)).flatten = (ls.take k).flatten ++ ls.getD k [] := by
  rw [List.take_succ_eq_append_getElem h, List.getD_eq_getElem?_getD, List.getElem?_eq_getElem h, List.flatten_append]; simp
theorem ps_le (ls : List (List Nat)) (k : Nat) : (ls.take k).flatten.length ≤ ls.flatten.length := by
  have : ls.flatten = (ls.take k).flatten ++ (ls.drop k).flatten := by rw [← List.flatten_append, List.take_append_drop]
  rw [this, List.length_append]; omega
set_option maxRecDepth 100000 in
set_option maxHeartbeats 400000 in
theorem concat_row (b off c : Nat) (ls : List (List Nat)) (w : World) (hb : b < w.heap.size) (hn : ls.length ≤ 1000) (hP : Ps w b off ls) (h0 : 0 < ls.flatten.length) (hm : ls.flatten.length ≤ 140737488355328) :
    Calls Try.prog 41 #[.slice (some ⟨b, off, none⟩) ls.length c] w fun e w' => ∃ u, e = .returned u ∧ JB w' w.heap.size u ls.flatten ∧ Below w.heap.size w w' := by
  have HP := hd hP
  clear hP
  have HG := hd (grow_nil ls.flatten.length w h0 hm)
  have HPS := hd (ps_le ls)
  generalize hT : ls.flatten.length = T at *
  have HT := hd hT
  clear hT
  go_enter Try.func41, Try.ntmps41
  go_wp2_with fail
  go_loop [3, 11] (fun s i => ∃ k : Nat, k ≤ ls.length ∧ i = .int .i64 (k : Int) ∧ s = .int .i64 (((ls.take k).flatten.length : Nat) : Int)) (fun _ i => ls.length - (intOf i).toNat)
  case atStart => exact ⟨0, by omega, rfl, rfl⟩
  case round =>
    obtain ⟨k, hk, rfl, rfl⟩ := hrel
    by_cases hlt : k < ls.length
    · obtain ⟨v, hv, hB⟩ := HP.out k hlt
      have he := congrArg List.length (ps_succ hlt)
      have hle := HPS.out (k + 1)
      rw [List.length_append] at he
      rw [he] at hle
      have HE := hd he
      clear he
      obtain ⟨a, c', e⟩ := hB.shape
      subst e
      clear hB
      generalize (ls.take k).flatten.length = s at *
      generalize (ls.getD k []).length = d at *
      go_wp2_with fail
      go_round
      case rel => exact ⟨k + 1, hlt, by go_num, by rw [HE.out]; rfl⟩
      case measure => simp [intOf]; omega
    · obtain rfl : k = ls.length := by omega
      rw [List.take_length, HT.out]
      go_wp2_with fail
      refine Calls.mono HG.out ?_
      rintro e w1 ⟨cap, rfl, hJ1, hB1⟩
      have HJ1 := hd hJ1
      have HB1 := hd hB1
      clear hJ1 hB1 HG
      go_wp2_with fail
      go_loopw [6, 27] (fun v i wr => ∃ k : Nat, k ≤ ls.length ∧ i = .int .i64 (k : Int) ∧ JB wr w.heap.size v (ls.take k).flatten ∧ Below w.heap.size w wr) (fun _ i _ => ls.length - (intOf i).toNat)
      case atStart => exact ⟨0, by omega, rfl, HJ1.out, HB1.out⟩
      case round =>
        obtain ⟨k, hk, rfl, hJ, hBB⟩ := hrel
        have HJ := hd hJ
        have HBB := hd hBB
        clear hJ hBB HJ1 HB1
        by_cases hlt : k < ls.length
        · obtain ⟨u, hv, hB⟩ := HP.out k hlt
          have HI := hd (hB.below HBB.out)
          have hc : wr.cell? ⟨b, off + k, none⟩ = some u := by rw [HBB.out.cell hb]; exact hv
          have HE := hd (ps_succ hlt)
          have hle := HPS.out (k + 1)
          have hl2 := congrArg List.length HE.out
          rw [List.length_append] at hl2
          have hsz := HBB.out.size
          clear hv hB
          obtain ⟨R, hR⟩ : ∃ R, R = (ls.take (k + 1)).flatten := ⟨_, rfl⟩
          obtain ⟨A, hA⟩ : ∃ A, A = (ls.take k).flatten := ⟨_, rfl⟩
          obtain ⟨D, hD⟩ : ∃ D, D = ls.getD k [] := ⟨_, rfl⟩
          rw [← hR, ← hA, ← hD] at HE
          rw [← hR] at hle hl2
          rw [← hA, ← hD] at hl2
          rw [← hA] at HJ
          rw [← hD] at HI
          have HR := hd hR
          clear hR hA hD
          go_wp2_with (at_builtin; refine wpList_append_jb _ rfl _ _ rfl w.heap.size _ _ _ _ rfl rfl HJ.out HI.out _ hl2.symm _ HE.out.symm (by omega) hsz ?_; intro a2 cap2 w2 hJ2 hg2 hc2)
          have HJ2 := hd hJ2
          have HB2 := hd (HJ.out.grown HBB.out (Nat.le_refl _) hsz hg2)
          clear hJ2 hg2
          go_roundw
          case rel => exact ⟨k + 1, hlt, by go_num, by rw [← HR.out]; have := HJ2.out; rw [hl2] at this; exact this, HB2.out⟩
          case measure => simp [intOf]; omega
        · obtain rfl : k = ls.length := by omega
          rw [List.take_length] at HJ
          go_wp2_with fail
          go_ret
          exact ⟨_, rfl, HJ.out, HBB.out⟩
end Vt
end Go.Proofs.Ytabfgoojhangnaa
namespace Go.Proofs.Ytabfgoojhangnaa
namespace Vt
structure Rec where
  lsn : Nat
  kind : Int
  key : ByteArray
  val : ByteArray
structure Ptr where
  lsn : Nat
  kind : Int
  at_ : Int
  len : Int
  key : ByteArray
structure Edg where
  count : Int
  bytes : Int
  frames : Int
  sum : Nat
structure Fr where
  kind : Int
  r : Rec
  p : Ptr
  e : Edg
def zr : Rec := ⟨0, 0, ByteArray.empty, ByteArray.empty⟩
def zp : Ptr := ⟨0, 0, 0, 0, ByteArray.empty⟩
def ze : Edg := ⟨0, 0, 0, 0⟩
def zf : Fr := ⟨0, zr, zp, ze⟩
/-- as the types have it -/
def Fr.Wf (f : Fr) : Prop := f.r.lsn < 18446744073709551616 ∧ f.p.lsn < 18446744073709551616 ∧ f.e.sum < 4294967296
def ofR (r : Rec) : Fr := ⟨r.kind, r, zp, ze⟩
def mayKey (s : ByteArray) : Prop := 1 ≤ s.size ∧ s.size ≤ 64
def onD (n : Int) : Prop := 0 ≤ n ∧ n ≤ 4194304
open Classical in
noncomputable def rfR (f : Fr) : Nat := if f.r.kind ≠ f.kind then 46 else if f.r.lsn = 0 then 47 else if ¬ mayKey f.r.key then 48 else if (if f.r.kind = 2 then 0 else 2048) < f.r.val.size then 49 else if f ≠ ofR f.r then 40 else 0
open Classical in
noncomputable def rfP (f : Fr) : Nat := if f.p.kind ≠ 1 ∧ f.p.kind ≠ 2 then 46 else if f.p.lsn = 0 then 47 else if ¬ mayKey f.p.key then 48 else if ¬ onD f.p.at_ ∨ ¬ onD f.p.len ∨ f.p.len = 0 then 40 else if f ≠ ⟨3, zr, f.p, ze⟩ then 40 else 0
open Classical in
noncomputable def rfE (f : Fr) : Nat := if ¬ onD f.e.count ∨ ¬ onD f.e.bytes ∨ ¬ onD f.e.frames then 40 else if f ≠ ⟨4, zr, zp, f.e⟩ then 40 else 0
/-- why a frame may not be -/
noncomputable def rf (f : Fr) : Nat := if f.kind = 1 ∨ f.kind = 2 then rfR f else if f.kind = 3 then rfP f else if f.kind = 4 then rfE f else 46
theorem rfR_ok {f : Fr} (h : rfR f = 0) : f.r.kind = f.kind ∧ f.r.lsn ≠ 0 ∧ mayKey f.r.key ∧ f.r.val.size ≤ (if f.r.kind = 2 then 0 else 2048) ∧ f = ofR f.r := by
  unfold rfR at h
  by_cases a : f.r.kind ≠ f.kind
  · rw [if_pos a] at h; omega
  · rw [if_neg a] at h
    by_cases b : f.r.lsn = 0
    · rw [if_pos b] at h; omega
    · rw [if_neg b] at h
      by_cases c : ¬ mayKey f.r.key
      · rw [if_pos c] at h; omega
      · rw [if_neg c] at h
        by_cases d : (if f.r.kind = 2 then 0 else 2048) < f.r.val.size
        · rw [if_pos d] at h; omega
        · rw [if_neg d] at h
          by_cases e : f ≠ ofR f.r
          · rw [if_pos e] at h; omega
          · exact ⟨Classical.not_not.1 a, b, Classical.not_not.1 c, Nat.le_of_not_lt d, Classical.not_not.1 e⟩
theorem rfP_ok {f : Fr} (h : rfP f = 0) : (f.p.kind = 1 ∨ f.p.kind = 2) ∧ f.p.lsn ≠ 0 ∧ mayKey f.p.key ∧ onD f.p.at_ ∧ onD f.p.len ∧ f.p.len ≠ 0 ∧ f = ⟨3, zr, f.p, ze⟩ := by
  unfold rfP at h
  split at h
  · omega
  · split at h
    · omega
    · split at h
      · omega
      · split at h
        · omega
        · split at h
          · omega
          · rename_i a b c d e
            refine ⟨by omega, b, Classical.not_not.1 c, ?_, ?_, ?_, Classical.not_not.1 e⟩
            · exact Classical.byContradiction fun q => d (.inl q)
            · exact Classical.byContradiction fun q => d (.inr (.inl q))
            · exact fun q => d (.inr (.inr q))
theorem rfE_ok {f : Fr} (h : rfE f = 0) : onD f.e.count ∧ onD f.e.bytes ∧ onD f.e.frames ∧ f = ⟨4, zr, zp, f.e⟩ := by
  unfold rfE at h
  split at h
  · omega
  · split at h
    · omega
    · rename_i d e
      refine ⟨?_, ?_, ?_, Classical.not_not.1 e⟩
      · exact Classical.byContradiction fun q => d (.inl q)
      · exact Classical.byContradiction fun q => d (.inr (.inl q))
      · exact Classical.byContradiction fun q => d (.inr (.inr q))
/-- the varints of all numbers, one behind the other -/
def vs (l : List Nat) : List Nat := (l.map vrt).flatten
/-- a body, in its parts -/
def bp (f : Fr) : List (List Nat) :=
  if f.kind = 1 then [[1], vs [f.r.lsn, f.r.key.size], bl f.r.key, bl f.r.val]
  else if f.kind = 2 then [[2], vs [f.r.lsn], bl f.r.key]
  else if f.kind = 3 then [[3], vs [f.p.lsn], [f.p.kind.toNat], vs [f.p.at_.toNat, f.p.len.toNat], bl f.p.key]
  else [[4], vs [f.e.count.toNat, f.e.bytes.toNat, f.e.frames.toNat, f.e.sum]]
def bd (f : Fr) : List Nat := (bp f).flatten
abbrev RS := List Nat × Bool
def rNum (m : Nat) (s : RS) : Nat × RS := if (dec s.1).2.2 = 0 ∧ (dec s.1).1 ≤ m then ((dec s.1).1, (s.1.drop (dec s.1).2.1, s.2)) else (0, (s.1, true))
def rKind (s : RS) : Nat × RS := if s.1 = [] then (0, (s.1, true)) else (s.1.getD 0 0, (s.1.drop 1, s.2))
def rText (c : Nat) (s : RS) : ByteArray × RS := if s.1.length < c then (ByteArray.empty, (s.1, true)) else (str (s.1.take c), (s.1.drop c, s.2))
def rRest (s : RS) : ByteArray × RS := rText s.1.length s
def rPtr (s : RS) : Ptr × RS :=
  let a := rNum 18446744073709551615 s
  let k := rKind a.2
  let b := rNum 4194304 k.2
  let c := rNum 4194304 b.2
  let t := rRest c.2
  (⟨a.1, (k.1 : Int), (b.1 : Int), (c.1 : Int), t.1⟩, t.2)
def rEdg (s : RS) : Edg × RS :=
  let a := rNum 4194304 s
  let b := rNum 4194304 a.2
  let c := rNum 4194304 b.2
  let d := rNum 4294967295 c.2
  (⟨(a.1 : Int), (b.1 : Int), (c.1 : Int), d.1⟩, d.2)
def rPut (s : RS) : Rec × RS :=
  let a := rNum 18446744073709551615 s
  let c := rNum 64 a.2
  let t := rText c.1 c.2
  let v := rRest t.2
  (⟨a.1, 1, t.1, v.1⟩, v.2)
def rDel (s : RS) : Rec × RS :=
  let a := rNum 18446744073709551615 s
  let t := rRest a.2
  (⟨a.1, 2, t.1, ByteArray.empty⟩, t.2)
/-- a body taken apart -/
def prs (s : RS) : Fr × RS :=
  let k := rKind s
  if k.1 = 1 then (⟨1, (rPut k.2).1, zp, ze⟩, (rPut k.2).2)
  else if k.1 = 2 then (⟨2, (rDel k.2).1, zp, ze⟩, (rDel k.2).2)
  else if k.1 = 3 then (⟨3, zr, (rPtr k.2).1, ze⟩, (rPtr k.2).2)
  else if k.1 = 4 then (⟨4, zr, zp, (rEdg k.2).1⟩, (rEdg k.2).2)
  else (⟨(k.1 : Int), zr, zp, ze⟩, k.2)
theorem rNum_vrt {n m : Nat} (h : n < 18446744073709551616) (hm : n ≤ m) (r : List Nat) (b : Bool) : rNum m (vrt n ++ r, b) = (n, (r, b)) := by
  unfold rNum
  rw [dec_vrt h, if_pos ⟨rfl, hm⟩]
  simp
theorem rNum_ok {m : Nat} {s : RS} (hb : Byt s.1) (h : (rNum m s).2.2 = false) : s.2 = false ∧ s.1 = vrt (rNum m s).1 ++ (rNum m s).2.1 ∧ (rNum m s).1 ≤ m ∧ (rNum m s).1 < 18446744073709551616 ∧ Byt (rNum m s).2.1 := by
  unfold rNum at h ⊢
  split at h
  · rename_i hc
    rw [if_pos hc]
    obtain ⟨h1, h2, h3, h4, h5, h6⟩ := dec_ok (l := s.1) (n := (dec s.1).1) (k := (dec s.1).2.1) hb (by rw [← hc.1])
    exact ⟨h, by simp only [h1]; rw [List.take_append_drop], hc.2, h5, byt_drop hb _⟩
  · simp at h
theorem rKind_ok {s : RS} (hb : Byt s.1) (h : (rKind s).2.2 = false) : s.2 = false ∧ s.1 = (rKind s).1 :: (rKind s).2.1 ∧ (rKind s).1 < 256 ∧ Byt (rKind s).2.1 := by
  unfold rKind at h ⊢
  split at h
  · simp at h
  · rename_i hc
    rw [if_neg hc]
    obtain ⟨l, b⟩ := s
    cases l with
    | nil => simp at hc
    | cons x t => exact ⟨h, rfl, hb x List.mem_cons_self, fun y hy => hb y (List.mem_cons_of_mem _ hy)⟩
theorem rText_ok {c : Nat} {s : RS} (hb : Byt s.1) (h : (rText c s).2.2 = false) : s.2 = false ∧ s.1 = bl (rText c s).1 ++ (rText c s).2.1 ∧ (rText c s).1.size = c ∧ Byt (rText c s).2.1 := by
  unfold rText at h ⊢
  split at h
  · simp at h
  · rename_i hc
    rw [if_neg hc]
    refine ⟨h, ?_, ?_, byt_drop hb _⟩
    · simp only [bl_str (byt_take hb c)]; rw [List.take_append_drop]
    · simp only [str_size (byt_take hb c)]; rw [List.length_take]; omega
theorem rRest_ok {s : RS} (hb : Byt s.1) (h : (rRest s).2.2 = false) : s.2 = false ∧ s.1 = bl (rRest s).1 ∧ (rRest s).2.1 = [] := by
  obtain ⟨h1, h2, _, _⟩ := rText_ok hb h
  have h3 : (rRest s).2.1 = [] := by unfold rRest rText; rw [if_neg (by omega)]; simp
  refine ⟨h1, ?_, h3⟩
  unfold rRest at h3 ⊢
  rw [h3, List.append_nil] at h2
  exact h2
theorem rText_bl (s : ByteArray) (r : List Nat) (b : Bool) : rText s.size (bl s ++ r, b) = (s, (r, b)) := by
  unfold rText
  rw [if_neg (by rw [List.length_append, bl_len]; omega)]
  simp only
  rw [← bl_len s, List.take_left, List.drop_left, str_bl]
theorem rRest_bl (s : ByteArray) (b : Bool) : rRest (bl s, b) = (s, ([], b)) := by
  have := rText_bl s [] b
  rw [List.append_nil] at this
  unfold rRest
  simp only
  rw [bl_len]; exact this
theorem vs_cons (x : Nat) (l r : List Nat) : vs (x :: l) ++ r = vrt x ++ (vs l ++ r) := by simp [vs]
theorem vs_nil (r : List Nat) : vs [] ++ r = r := rfl
theorem rKind_cons (x : Nat) (r : List Nat) (b : Bool) : rKind (x :: r, b) = (x, (r, b)) := by unfold rKind; rw [if_neg (by simp)]; rfl
/-- what was written is read -/
theorem prs_bd {f : Fr} (hw : f.Wf) (h : rf f = 0) : prs (bd f, false) = (f, ([], false)) := by
  obtain ⟨w1, w2, w3⟩ := hw
  unfold rf at h
  by_cases c12 : f.kind = 1 ∨ f.kind = 2
  · rw [if_pos c12] at h
    obtain ⟨h1, h2, h3, h4, h5⟩ := rfR_ok h
    obtain ⟨k, ⟨lsn, rk, key, val⟩, p, e⟩ := f
    unfold ofR at h5
    injection h5 with e1 e2 e3 e4
    simp only at *
    subst e3 e4
    rcases c12 with rfl | rfl
    · subst h1
      have hb : bd ⟨1, ⟨lsn, 1, key, val⟩, zp, ze⟩ = 1 :: (vrt lsn ++ (vrt key.size ++ (bl key ++ bl val))) := by
        unfold bd bp; rw [if_pos rfl]
        simp [vs]
      rw [hb]
      unfold prs
      rw [rKind_cons]
      simp only [if_pos]
      unfold rPut
      rw [rNum_vrt w1 (by omega)]
      simp only
      rw [rNum_vrt (by have := h3.2; omega) h3.2]
      simp only
      rw [rText_bl]
      simp only
      rw [rRest_bl]
    · subst h1
      rw [if_pos rfl] at h4
      have hv : val = ByteArray.empty := by
        refine bl_inj (List.length_eq_zero_iff.1 ?_)
        rw [bl_len]; omega
      subst hv
      have hb : bd ⟨2, ⟨lsn, 2, key, ByteArray.empty⟩, zp, ze⟩ = 2 :: (vrt lsn ++ bl key) := by
        unfold bd bp; rw [if_neg (by simp), if_pos rfl]
        simp [vs]
      rw [hb]
      unfold prs
      rw [rKind_cons]
      simp only [if_neg (show ¬ (2 = 1) by omega), if_pos]
      unfold rDel
      rw [rNum_vrt w1 (by omega)]
      simp only
      rw [rRest_bl]
  · rw [if_neg c12] at h
    by_cases c3 : f.kind = 3
    · rw [if_pos c3] at h
      obtain ⟨h1, h2, h3, h4, h5, h6, h7⟩ := rfP_ok h
      obtain ⟨k, r, ⟨lsn, pk, at_, len, key⟩, e⟩ := f
      injection h7 with e1 e2 e3 e4
      simp only at *
      subst e1 e2 e4
      obtain ⟨a, rfl⟩ : ∃ a : Nat, at_ = (a : Int) := ⟨at_.toNat, by have := h4.1; omega⟩
      obtain ⟨n, rfl⟩ : ∃ n : Nat, len = (n : Int) := ⟨len.toNat, by have := h5.1; omega⟩
      obtain ⟨q, rfl⟩ : ∃ q : Nat, pk = (q : Int) := ⟨pk.toNat, by omega⟩
      have hb : bd ⟨3, zr, ⟨lsn, (q : Int), (a : Int), (n : Int), key⟩, ze⟩ = 3 :: (vrt lsn ++ (q :: (vrt a ++ (vrt n ++ bl key)))) := by
        unfold bd bp; rw [if_neg (by simp), if_neg (by simp), if_pos rfl]
        simp [vs]
      rw [hb]
      unfold prs
      rw [rKind_cons]
      simp only [if_neg (show ¬ (3 = 1) by omega), if_neg (show ¬ (3 = 2) by omega), if_pos]
      unfold rPtr
      rw [rNum_vrt w2 (by omega)]
      simp only
      rw [rKind_cons]
      simp only
      rw [rNum_vrt (by have := h4.2; omega) (by have := h4.2; omega)]
      simp only
      rw [rNum_vrt (by have := h5.2; omega) (by have := h5.2; omega)]
      simp only
      rw [rRest_bl]
    · rw [if_neg c3] at h
      by_cases c4 : f.kind = 4
      · rw [if_pos c4] at h
        obtain ⟨h1, h2, h3, h4⟩ := rfE_ok h
        obtain ⟨k, r, p, ⟨ct, by_, fr, sm⟩⟩ := f
        injection h4 with e1 e2 e3 e4
        simp only at *
        subst e1 e2 e3
        obtain ⟨a, rfl⟩ : ∃ a : Nat, ct = (a : Int) := ⟨ct.toNat, by have := h1.1; omega⟩
        obtain ⟨n, rfl⟩ : ∃ n : Nat, by_ = (n : Int) := ⟨by_.toNat, by have := h2.1; omega⟩
        obtain ⟨q, rfl⟩ : ∃ q : Nat, fr = (q : Int) := ⟨fr.toNat, by have := h3.1; omega⟩
        have hb : bd ⟨4, zr, zp, ⟨(a : Int), (n : Int), (q : Int), sm⟩⟩ = 4 :: (vrt a ++ (vrt n ++ (vrt q ++ (vrt sm ++ [])))) := by
          unfold bd bp; rw [if_neg (by simp), if_neg (by simp), if_neg (by simp)]
          simp [vs]
        rw [hb]
        unfold prs
        rw [rKind_cons]
        simp only [if_neg (show ¬ (4 = 1) by omega), if_neg (show ¬ (4 = 2) by omega), if_neg (show ¬ (4 = 3) by omega), if_pos]
        unfold rEdg
        rw [rNum_vrt (by have := h1.2; omega) (by have := h1.2; omega)]
        simp only
        rw [rNum_vrt (by have := h2.2; omega) (by have := h2.2; omega)]
        simp only
        rw [rNum_vrt (by have := h3.2; omega) (by have := h3.2; omega)]
        simp only
        rw [rNum_vrt (by omega) (by omega)]
      · rw [if_neg c4] at h; omega
theorem rNum_byt (m : Nat) {s : RS} (hb : Byt s.1) : Byt (rNum m s).2.1 := by
  unfold rNum; split
  · exact byt_drop hb _
  · exact hb
theorem rKind_byt {s : RS} (hb : Byt s.1) : Byt (rKind s).2.1 := by
  unfold rKind; split
  · exact hb
  · exact byt_drop hb _
theorem rText_byt (c : Nat) {s : RS} (hb : Byt s.1) : Byt (rText c s).2.1 := by
  unfold rText; split
  · exact hb
  · exact byt_drop hb _
theorem rPut_ok {s : RS} (hb : Byt s.1) (h : (rPut s).2.2 = false) : s.2 = false ∧ (rPut s).2.1 = [] ∧ (rPut s).1.kind = 1 ∧ s.1 = vrt (rPut s).1.lsn ++ (vrt (rPut s).1.key.size ++ (bl (rPut s).1.key ++ bl (rPut s).1.val)) ∧ (rPut s).1.lsn < 18446744073709551616 := by
  unfold rPut at h ⊢
  simp only at h ⊢
  have b1 := rNum_byt 18446744073709551615 hb
  have b2 := rNum_byt 64 b1
  have b3 := rText_byt (rNum 64 (rNum 18446744073709551615 s).2).1 b2
  obtain ⟨d1, d2, d3⟩ := rRest_ok b3 h
  obtain ⟨c1, c2, c3, _⟩ := rText_ok b2 d1
  obtain ⟨q1, q2, _⟩ := rNum_ok b1 c1
  obtain ⟨p1, p2, p3, p4, _⟩ := rNum_ok hb q1
  refine ⟨p1, d3, trivial, ?_, p4⟩
  rw [← d2, c3, ← c2, ← q2, ← p2]
theorem rDel_ok {s : RS} (hb : Byt s.1) (h : (rDel s).2.2 = false) : s.2 = false ∧ (rDel s).2.1 = [] ∧ (rDel s).1.kind = 2 ∧ (rDel s).1.val = ByteArray.empty ∧ s.1 = vrt (rDel s).1.lsn ++ bl (rDel s).1.key ∧ (rDel s).1.lsn < 18446744073709551616 := by
  unfold rDel at h ⊢
  simp only at h ⊢
  have b1 := rNum_byt 18446744073709551615 hb
  obtain ⟨d1, d2, d3⟩ := rRest_ok b1 h
  obtain ⟨p1, p2, p3, p4, _⟩ := rNum_ok hb d1
  refine ⟨p1, d3, trivial, trivial, ?_, p4⟩
  rw [← d2, ← p2]
theorem rPtr_ok {s : RS} (hb : Byt s.1) (h : (rPtr s).2.2 = false) : s.2 = false ∧ (rPtr s).2.1 = [] ∧ s.1 = vrt (rPtr s).1.lsn ++ ((rPtr s).1.kind.toNat :: (vrt (rPtr s).1.at_.toNat ++ (vrt (rPtr s).1.len.toNat ++ bl (rPtr s).1.key))) ∧ (rPtr s).1.lsn < 18446744073709551616 := by
  unfold rPtr at h ⊢
  simp only [Int.toNat_natCast] at h ⊢
  have b1 := rNum_byt 18446744073709551615 hb
  have b2 := rKind_byt b1
  have b3 := rNum_byt 4194304 b2
  have b4 := rNum_byt 4194304 b3
  obtain ⟨d1, d2, d3⟩ := rRest_ok b4 h
  obtain ⟨c1, c2, _⟩ := rNum_ok b3 d1
  obtain ⟨e1, e2, _⟩ := rNum_ok b2 c1
  obtain ⟨q1, q2, _⟩ := rKind_ok b1 e1
  obtain ⟨p1, p2, p3, p4, _⟩ := rNum_ok hb q1
  refine ⟨p1, d3, ?_, p4⟩
  rw [← d2, ← c2, ← e2, ← q2, ← p2]
theorem rEdg_ok {s : RS} (hb : Byt s.1) (h : (rEdg s).2.2 = false) : s.2 = false ∧ s.1 = vrt (rEdg s).1.count.toNat ++ (vrt (rEdg s).1.bytes.toNat ++ (vrt (rEdg s).1.frames.toNat ++ (vrt (rEdg s).1.sum ++ (rEdg s).2.1))) ∧ (rEdg s).1.sum < 4294967296 := by
  unfold rEdg at h ⊢
  simp only [Int.toNat_natCast] at h ⊢
  have b1 := rNum_byt 4194304 hb
  have b2 := rNum_byt 4194304 b1
  have b3 := rNum_byt 4194304 b2
  obtain ⟨d1, d2, d3, _⟩ := rNum_ok b3 h
  obtain ⟨c1, c2, _⟩ := rNum_ok b2 d1
  obtain ⟨q1, q2, _⟩ := rNum_ok b1 c1
  obtain ⟨p1, p2, p3, p4, _⟩ := rNum_ok hb q1
  refine ⟨p1, ?_, by omega⟩
  rw [← d2, ← c2, ← q2, ← p2]
theorem prs_1 {s : RS} (h : (rKind s).1 = 1) : prs s = (⟨1, (rPut (rKind s).2).1, zp, ze⟩, (rPut (rKind s).2).2) := by unfold prs; simp only; rw [if_pos h]
theorem prs_2 {s : RS} (h : (rKind s).1 = 2) : prs s = (⟨2, (rDel (rKind s).2).1, zp, ze⟩, (rDel (rKind s).2).2) := by unfold prs; simp only; rw [if_neg (by omega), if_pos h]
theorem prs_3 {s : RS} (h : (rKind s).1 = 3) : prs s = (⟨3, zr, (rPtr (rKind s).2).1, ze⟩, (rPtr (rKind s).2).2) := by unfold prs; simp only; rw [if_neg (by omega), if_neg (by omega), if_pos h]
theorem prs_4 {s : RS} (h : (rKind s).1 = 4) : prs s = (⟨4, zr, zp, (rEdg (rKind s).2).1⟩, (rEdg (rKind s).2).2) := by unfold prs; simp only; rw [if_neg (by omega), if_neg (by omega), if_neg (by omega), if_pos h]
theorem prs_5 {s : RS} (h1 : (rKind s).1 ≠ 1) (h2 : (rKind s).1 ≠ 2) (h3 : (rKind s).1 ≠ 3) (h4 : (rKind s).1 ≠ 4) : prs s = (⟨((rKind s).1 : Int), zr, zp, ze⟩, (rKind s).2) := by unfold prs; simp only; rw [if_neg h1, if_neg h2, if_neg h3, if_neg h4]
/-- what is read is what would be written -/
theorem bd_prs {l : List Nat} (hb : Byt l) (h : rf (prs (l, false)).1 = 0) (hl : (prs (l, false)).2.1 = []) (hr : (prs (l, false)).2.2 = false) : bd (prs (l, false)).1 = l ∧ (prs (l, false)).1.Wf := by
  have bk := rKind_byt (s := (l, false)) hb
  by_cases c1 : (rKind (l, false)).1 = 1
  · rw [prs_1 c1] at hl hr ⊢
    simp only at hl hr ⊢
    obtain ⟨p1, p2, p3, p4, p5⟩ := rPut_ok bk hr
    obtain ⟨_, q2, _⟩ := rKind_ok (s := (l, false)) hb p1
    simp only at q2
    refine ⟨?_, p5, (by show 0 < 18446744073709551616; omega), (by show 0 < 4294967296; omega)⟩
    refine Eq.trans ?_ q2.symm
    rw [p4, c1]
    unfold bd bp; rw [if_pos rfl]
    simp [vs]
  · by_cases c2 : (rKind (l, false)).1 = 2
    · rw [prs_2 c2] at hl hr ⊢
      simp only at hl hr ⊢
      obtain ⟨p1, p2, p3, _, p4, p5⟩ := rDel_ok bk hr
      obtain ⟨_, q2, _⟩ := rKind_ok (s := (l, false)) hb p1
      simp only at q2
      refine ⟨?_, p5, (by show 0 < 18446744073709551616; omega), (by show 0 < 4294967296; omega)⟩
      refine Eq.trans ?_ q2.symm
      rw [p4, c2]
      unfold bd bp; rw [if_neg (by simp), if_pos rfl]
      simp [vs]
    · by_cases c3 : (rKind (l, false)).1 = 3
      · rw [prs_3 c3] at hl hr ⊢
        simp only at hl hr ⊢
        obtain ⟨p1, p2, p4, p5⟩ := rPtr_ok bk hr
        obtain ⟨_, q2, _⟩ := rKind_ok (s := (l, false)) hb p1
        simp only at q2
        refine ⟨?_, (by show 0 < 18446744073709551616; omega), p5, (by show 0 < 4294967296; omega)⟩
        refine Eq.trans ?_ q2.symm
        rw [p4, c3]
        unfold bd bp; rw [if_neg (by simp), if_neg (by simp), if_pos rfl]
        simp [vs]
      · by_cases c4 : (rKind (l, false)).1 = 4
        · rw [prs_4 c4] at hl hr ⊢
          simp only at hl hr ⊢
          obtain ⟨p1, p4, p5⟩ := rEdg_ok bk hr
          obtain ⟨_, q2, _⟩ := rKind_ok (s := (l, false)) hb p1
          simp only at q2
          refine ⟨?_, (by show 0 < 18446744073709551616; omega), (by show 0 < 18446744073709551616; omega), p5⟩
          refine Eq.trans ?_ q2.symm
          rw [p4, c4, hl]
          unfold bd bp; rw [if_neg (by simp), if_neg (by simp), if_neg (by simp)]
          simp [vs]
        · rw [prs_5 c1 c2 c3 c4] at h
          unfold rf at h
          simp only at h
          rw [if_neg (by omega), if_neg (by omega), if_neg (by omega)] at h
          omega
/-- a body that may be is short -/
theorem bd_len {f : Fr} (hw : f.Wf) (h : rf f = 0) : (bd f).length ≤ 2200 ∧ 1 ≤ (bd f).length := by
  obtain ⟨w1, w2, w3⟩ := hw
  unfold rf at h
  unfold bd bp
  by_cases c12 : f.kind = 1 ∨ f.kind = 2
  · rw [if_pos c12] at h
    obtain ⟨h1, h2, h3, h4, h5⟩ := rfR_ok h
    have v1 := vrt_ten w1
    have v2 := vrt_ten (n := f.r.key.size) (by have := h3.2; omega)
    have h32 := h3.2
    by_cases c1 : f.kind = 1
    · rw [if_pos c1]
      rw [if_neg (by omega)] at h4
      simp [vs, bl_len]; omega
    · rw [if_neg c1, if_pos (by omega)]
      simp [vs, bl_len]; omega
  · rw [if_neg c12] at h
    rw [if_neg (by omega), if_neg (by omega)]
    by_cases c3 : f.kind = 3
    · rw [if_pos c3] at h ⊢
      obtain ⟨h1, h2, h3, h4, h5, h6, h7⟩ := rfP_ok h
      have v1 := vrt_ten w2
      have v2 := vrt_ten (n := f.p.at_.toNat) (by have := h4.2; omega)
      have v3 := vrt_ten (n := f.p.len.toNat) (by have := h5.2; omega)
      have h32 := h3.2
      simp [vs, bl_len]; omega
    · rw [if_neg c3] at h ⊢
      by_cases c4 : f.kind = 4
      · rw [if_pos c4] at h
        obtain ⟨h1, h2, h3, h4⟩ := rfE_ok h
        have v1 := vrt_ten (n := f.e.count.toNat) (by have := h1.2; omega)
        have v2 := vrt_ten (n := f.e.bytes.toNat) (by have := h2.2; omega)
        have v3 := vrt_ten (n := f.e.frames.toNat) (by have := h3.2; omega)
        have v4 := vrt_ten (n := f.e.sum) (by omega)
        simp [vs]; omega
      · rw [if_neg c4] at h; omega
theorem vs_byt (l : List Nat) : Byt (vs l) := by
  intro x hx
  unfold vs at hx
  obtain ⟨a, ha, hxa⟩ := List.mem_flatten.1 hx
  obtain ⟨n, _, rfl⟩ := List.mem_map.1 ha
  exact vrt_byt n x hxa
theorem bd_byt {f : Fr} (h : rf f = 0) : Byt (bd f) := by
  have one : ∀ k, k < 256 → Byt [k] := by intro k hk x hx; simp at hx; omega
  have key : ∀ p ∈ bp f, Byt p := by
    unfold bp
    unfold rf at h
    by_cases c1 : f.kind = 1
    · rw [if_pos c1]
      intro p hp
      simp only [List.mem_cons, List.not_mem_nil, or_false] at hp
      rcases hp with rfl | rfl | rfl | rfl
      · exact one 1 (by omega)
      · exact vs_byt _
      · exact bl_byt _
      · exact bl_byt _
    · rw [if_neg c1]
      by_cases c2 : f.kind = 2
      · rw [if_pos c2]
        intro p hp
        simp only [List.mem_cons, List.not_mem_nil, or_false] at hp
        rcases hp with rfl | rfl | rfl
        · exact one 2 (by omega)
        · exact vs_byt _
        · exact bl_byt _
      · rw [if_neg c2]
        rw [if_neg (by omega)] at h
        by_cases c3 : f.kind = 3
        · rw [if_pos c3]
          rw [if_pos c3] at h
          have := (rfP_ok h).1
          intro p hp
          simp only [List.mem_cons, List.not_mem_nil, or_false] at hp
          rcases hp with rfl | rfl | rfl | rfl | rfl
          · exact one 3 (by omega)
          · exact vs_byt _
          · exact one _ (by omega)
          · exact vs_byt _
          · exact bl_byt _
        · rw [if_neg c3]
          intro p hp
          simp only [List.mem_cons, List.not_mem_nil, or_false] at hp
          rcases hp with rfl | rfl
          · exact one 4 (by omega)
          · exact vs_byt _
  intro x hx
  obtain ⟨p, hp, hxp⟩ := List.mem_flatten.1 hx
  exact key p hp x hxp
end Vt
end Go.Proofs.Ytabfgoojhangnaa
