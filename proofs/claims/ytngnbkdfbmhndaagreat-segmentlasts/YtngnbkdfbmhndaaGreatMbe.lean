/-
  SEGMENTS, PLAINLY: what Files and Lasting tell of a writer's disk; of the segment at hand all lasts but the last records, fewer than the writer's number.
  THE WALK OF THE LAW'S written: all lines are put, their places gathered.
  The law's sameFiles.
-/
import Derived.Test.YtngnbkdfbmhndaaGreatMay
import Derived.Test.YtngnbkdfbmhndaaGreatMaz
import Derived.Test.YtngnbkdfbmhndaaGreatMbd
import Derived.Test.YtngnbkdfbmhndaaGreatMbb
import Derived.Test.YtngnbkdfbmhndaaGreatMah
namespace Go.Proofs.YtngnbkdfbmhndaaGreat
open Go.RowKit Go.Maps Go.Sort
namespace Sg
open Vt Dk
def u8 (l : List Nat) : List UInt8 := l.map UInt8.ofNat
theorem u8_app (a b : List Nat) : u8 (a ++ b) = u8 a ++ u8 b := by unfold u8; rw [List.map_append]
theorem pre_lt (p : List UInt8) {x y : List UInt8} (h : x < y) : p ++ x < p ++ y := by
  induction p with
  | nil => exact h
  | cons a r ih => rw [List.cons_append, List.cons_append, List.cons_lt_cons_iff]; exact .inr ⟨rfl, ih⟩
theorem hx_mono {d e : Nat} (h : d < e) (he : e < 16) : UInt8.ofNat (Nam.hx d) < UInt8.ofNat (Nam.hx e) := by
  have : ∀ d e : Fin 16, d < e → UInt8.ofNat (Nam.hx d.val) < UInt8.ofNat (Nam.hx e.val) := by decide
  exact this ⟨d, by omega⟩ ⟨e, he⟩ h
theorem hex_lex (t : List UInt8) : ∀ (j n m : Nat), n % 16 ^ j < m % 16 ^ j → u8 (Nam.hex j n) ++ t < u8 (Nam.hex j m) ++ t
  | 0, n, m, h => by simp [Nat.mod_one] at h
  | j + 1, n, m, h => by
    have e1 : n % 16 ^ (j + 1) = n / 16 ^ j % 16 * 16 ^ j + n % 16 ^ j := by rw [Nat.pow_succ, Nat.mod_mul, Nat.mul_comm, Nat.add_comm]
    have e2 : m % 16 ^ (j + 1) = m / 16 ^ j % 16 * 16 ^ j + m % 16 ^ j := by rw [Nat.pow_succ, Nat.mod_mul, Nat.mul_comm, Nat.add_comm]
    have hpp : 0 < 16 ^ j := Nat.pow_pos (by omega)
    rw [e1, e2] at h
    show UInt8.ofNat (Nam.hx (n / 16 ^ j % 16)) :: (u8 (Nam.hex j n) ++ t) < UInt8.ofNat (Nam.hx (m / 16 ^ j % 16)) :: (u8 (Nam.hex j m) ++ t)
    rw [List.cons_lt_cons_iff]
    have hn := Nat.mod_lt n hpp
    rcases Nat.lt_trichotomy (n / 16 ^ j % 16) (m / 16 ^ j % 16) with q | q | q
    · exact .inl (hx_mono q (by omega))
    · refine .inr ⟨by rw [q], hex_lex t j n m ?_⟩
      rw [q] at h; omega
    · have h3 : (m / 16 ^ j % 16 + 1) * 16 ^ j ≤ n / 16 ^ j % 16 * 16 ^ j := Nat.mul_le_mul_right _ q
      rw [Nat.add_mul] at h3
      have := Nat.mod_lt m hpp
      omega
theorem nmS_lt {n m : Nat} (hm : m < 4294967296) (h : n < m) : (nmS n).data.toList < (nmS m).data.toList := by
  unfold nmS
  rw [str_data, str_data]
  show u8 (Nam.mk 1 n) < u8 (Nam.mk 1 m)
  unfold Nam.mk
  rw [u8_app, u8_app, u8_app, u8_app]
  refine pre_lt _ (hex_lex _ 8 n m ?_)
  rw [Nat.mod_eq_of_lt (by omega), Nat.mod_eq_of_lt (by omega)]
  exact h
theorem files_sorted (a : List (List Nat)) : ∀ k, k + a.length < 4294967296 → ((files k a).map fun f => f.nm.data.toList).Pairwise fun x y => leB x y = true := by
  induction a with
  | nil => intro k _; exact List.Pairwise.nil
  | cons y r ih =>
    intro k hk
    rw [List.length_cons] at hk
    show ((nmS k).data.toList :: (files (k + 1) r).map fun f => f.nm.data.toList).Pairwise _
    refine List.Pairwise.cons (fun x hx => ?_) (ih (k + 1) (by omega))
    obtain ⟨f, hf, rfl⟩ := List.mem_map.1 hx
    obtain ⟨j, h1, h2, h3⟩ := files_nm hf
    rw [h3]
    simp only [leB, decide_eq_true_eq]
    exact List.le_of_lt (nmS_lt (by omega) (by omega))
/-- what a disk tells whose names are in order -/
theorem told_sorted {S : Ds} (hn : S.fs.Pairwise fun a b => a.nm ≠ b.nm) (hs : (S.fs.map fun f => f.nm.data.toList).Pairwise fun x y => leB x y = true) (all : Bool) :
    Dk.told S all = S.fs.map fun f => (f.nm, if all then f.dat else f.dat.take f.las) := by
  unfold Dk.told
  rw [List.mergeSort_of_pairwise hs, List.map_map]
  refine List.map_congr_left fun f hf => ?_
  have hnm : (⟨f.nm.data.toList.toArray⟩ : ByteArray) = f.nm := by rcases f with ⟨⟨⟨x⟩⟩, _⟩; rfl
  simp only [Function.comp_apply, hnm, get_of_mem hn hf, Option.map_some, Option.getD_some]
theorem files_told (k : Nat) (a : List (List Nat)) (all : Bool) : ((files k a).map fun f => (f.nm, if all then f.dat else f.dat.take f.las)) = (files k a).map fun f => (f.nm, f.dat) := by
  induction a generalizing k with
  | nil => rfl
  | cons y r ih =>
    show _ :: _ = _ :: _
    rw [ih]
    cases all <;> simp
theorem told_iv {W : Ws} {S : Ds} {old : List (List Nat)} {cur : List Nat} {las : Nat} (h : Iv W S old cur las) (hl : old.length < 1000000) (all : Bool) :
    Dk.told S all = ((files 1 old).map fun f => (f.nm, f.dat)) ++ [(nmS (old.length + 1), if all then cur else cur.take las)] := by
  rw [told_sorted h.good.names ?_ all, h.fs, List.map_append, files_told]
  · rfl
  · have := files_sorted (old ++ [cur]) 1 (by rw [List.length_append]; simp; omega)
    rw [files_snoc, List.map_append] at this
    rw [h.fs, List.map_append, Nat.add_comm old.length 1]
    exact this
/-- of the segment at hand all lasts but the last records -/
def Tail (W : Ws) (cur : List Nat) (las : Nat) : Prop :=
  las ≤ cur.length ∧ (W.evy = 0 ∨ W.uns < W.evy) ∧ ∃ gs : List Fr, (∀ f ∈ gs, f.Wf ∧ rf f = 0 ∧ (f.kind = 1 ∨ f.kind = 2)) ∧ cur.drop las = (gs.map en).flatten ∧ gs.length = W.uns
theorem tail_nil {W : Ws} (h : W.uns = 0) (he : W.evy = 0 ∨ 0 < W.evy) (cur : List Nat) : Tail W cur cur.length := ⟨Nat.le_refl _, by rw [h]; exact he, [], by simp, by rw [List.drop_length]; rfl, h.symm⟩
theorem kindR (l : Ln) (k : Nat) : (ofR (lnR l k)).kind = 1 ∨ (ofR (lnR l k)).kind = 2 := by
  show (if l.gone then (2 : Int) else 1) = 1 ∨ (if l.gone then (2 : Int) else 1) = 2
  cases l.gone <;> simp
theorem Pu.tail {W W' : Ws} {S S' : Ds} {old' : List (List Nat)} {cur0 : List Nat} {l : Ln} {k las0 uns0 las' : Nat} (h : Pu W W' S S' old' cur0 (fB l k) las0 uns0 las') (hk : k < 1000000) (ht : las0 ≤ cur0.length ∧ ∃ gs : List Fr, (∀ f ∈ gs, f.Wf ∧ rf f = 0 ∧ (f.kind = 1 ∨ f.kind = 2)) ∧ cur0.drop las0 = (gs.map en).flatten ∧ gs.length = uns0) : Tail W' (cur0 ++ fB l k) las' := by
  obtain ⟨h0, gs, h1, h2, h3⟩ := ht
  rcases h.las with ⟨e1, e2, e3⟩ | ⟨e1, e2⟩
  · refine ⟨by rw [e1, List.length_append]; omega, by rw [h.evy, e2]; exact e3, gs ++ [ofR (lnR l k)], ?_, ?_, by rw [List.length_append, e2, h3]; rfl⟩
    · intro f hf
      rcases List.mem_append.1 hf with hf | hf
      · exact h1 f hf
      · rw [List.mem_singleton] at hf; subst hf; exact ⟨lnR_wf l k hk, lnR_rf l k, kindR l k⟩
    · rw [e1, List.drop_append_of_le_length h0, h2]
      simp [fB]
  · rw [e1]
    exact tail_nil e2 (by omega) _
theorem locs_count (gs : List Fr) (h : ∀ f ∈ gs, f.Wf ∧ rf f = 0 ∧ (f.kind = 1 ∨ f.kind = 2)) : Byt (gs.map en).flatten → ∀ at_, ((locs at_ (gs.map en).flatten).filter (isw [1, 2])).length = gs.length := by
  induction gs with
  | nil => intro _ at_; rfl
  | cons f r ih =>
    intro hb at_
    obtain ⟨h1, h2, h3⟩ := h f List.mem_cons_self
    rw [List.map_cons, List.flatten_cons] at hb ⊢
    rw [locs_en h1 h2 hb, List.filter_cons_of_pos (by unfold isw; simp; exact h3), List.length_cons, List.length_cons, ih (fun g hg => h g (List.mem_cons_of_mem _ hg)) (fun y hy => hb y (List.mem_append_right _ hy))]
theorem Tail.count {W : Ws} {cur : List Nat} {las : Nat} (h : Tail W cur las) (hb : Byt cur) : (recs [1, 2] (cur.drop las)).length = W.uns := by
  obtain ⟨_, _, gs, h1, h2, h3⟩ := h
  unfold recs
  rw [h2, locs_count gs h1 (h2 ▸ byt_drop hb las), h3]
/-- behind k lines -/
def La (X : Ws × Ds) : Prop := Iv0 X.1 X.2 ∨ ∃ old cur las, Iv X.1 X.2 old cur las ∧ old.length ≤ 60 ∧ Tail X.1 cur las
/-- behind one line more -/
theorem La.step {lim evy k : Nat} {X : Ws × Ds} (h : Ok lim evy k X) (hl : La X) (hk : k < 60) (l : Ln) :
    La (stp l k X) ∧ ∃ old cur0 las, Iv (stp l k X).1 (stp l k X).2 old (cur0 ++ fB l k) las ∧ old.length ≤ 60 ∧ Tail (stp l k X).1 (cur0 ++ fB l k) las ∧ plc l k X = (old.length + 1, cur0.length, (fB l k).length) ∧ (l.syn = true → las = (cur0 ++ fB l k).length) := by
  have hfl : (fB l k).length ≤ 1000 := lnR_len l k (by omega)
  have hroom : X.2.used + (fB l k).length ≤ X.2.cap := by rw [h.cap]; have := h.used; omega
  have main : ∀ {old cur0 : List _} {las0 uns0 las' : Nat}, Pu X.1 (pt X.1 X.2 (fB l k)).2.1 X.2 (pt X.1 X.2 (fB l k)).2.2 old cur0 (fB l k) las0 uns0 las' → old.length ≤ 60 → plc l k X = (old.length + 1, cur0.length, (fB l k).length) → (las0 ≤ cur0.length ∧ ∃ gs : List Fr, (∀ f ∈ gs, f.Wf ∧ rf f = 0 ∧ (f.kind = 1 ∨ f.kind = 2)) ∧ cur0.drop las0 = (gs.map en).flatten ∧ gs.length = uns0) →
      ∃ old cur0 las, Iv (stp l k X).1 (stp l k X).2 old (cur0 ++ fB l k) las ∧ old.length ≤ 60 ∧ Tail (stp l k X).1 (cur0 ++ fB l k) las ∧ plc l k X = (old.length + 1, cur0.length, (fB l k).length) ∧ (l.syn = true → las = (cur0 ++ fB l k).length) := by
    intro old cur0 las0 uns0 las' hp ho hpl ht
    have hT := hp.tail (by omega) ht
    obtain ⟨s1, s2, s3, s4⟩ := sy_iv hp.iv
    unfold stp
    by_cases hs : l.syn = true
    · rw [if_pos hs, s2]
      exact ⟨old, cur0, _, s3, ho, tail_nil rfl (by show (pt X.1 X.2 (fB l k)).2.1.evy = 0 ∨ 0 < (pt X.1 X.2 (fB l k)).2.1.evy; omega) _, hpl, fun _ => rfl⟩
    · rw [if_neg hs]
      exact ⟨old, cur0, _, hp.iv, ho, hT, hpl, fun q => absurd q hs⟩
  have fin : (∃ old cur0 las, Iv (stp l k X).1 (stp l k X).2 old (cur0 ++ fB l k) las ∧ old.length ≤ 60 ∧ Tail (stp l k X).1 (cur0 ++ fB l k) las ∧ plc l k X = (old.length + 1, cur0.length, (fB l k).length) ∧ (l.syn = true → las = (cur0 ++ fB l k).length)) := by
    rcases h.at_ with ⟨rfl, hi⟩ | ⟨hk0, o, c, s, hi, ho, hc, _⟩
    · obtain ⟨p1, p2, p3, las', p4⟩ := pt_iv0 hi (fB l 0) hroom
      exact main p4 (by simp) (by unfold plc; rw [p2, p3]; rfl) ⟨Nat.le_refl _, [], by simp, rfl, rfl⟩
    · rcases hl with hi0 | ⟨old, cur, las, hi', ho', h1, _, gs, h3, h4, h5⟩
      · exact absurd (hi.fs.symm.trans hi0.fs) (by simp)
      · have hol : old.length ≤ k := by
          have e := congrArg List.length (hi.fs.symm.trans hi'.fs)
          rw [List.length_append, List.length_append, files_len, files_len] at e
          simp only [List.length_cons, List.length_nil] at e
          omega
        obtain ⟨p1, las', ⟨f1, p2, p3, p4⟩ | ⟨f1, p2, p3, p4⟩⟩ := pt_iv hi' (fB l k) hroom (by omega)
        · exact main p4 ho' (by unfold plc; rw [p2, p3]) ⟨h1, gs, h3, h4, h5⟩
        · exact main p4 (by rw [List.length_append]; simp; omega) (by unfold plc; rw [p2, p3]; simp) ⟨Nat.le_refl _, [], by simp, rfl, rfl⟩
  refine ⟨?_, fin⟩
  obtain ⟨old, cur0, las, f1, f2, f3, _⟩ := fin
  exact .inr ⟨old, _, las, f1, f2, f3⟩
theorem la0 (lim evy : Int) : La (w0S lim evy, ds0 1000000) := by
  rcases (ok0 lim evy).at_ with ⟨_, q⟩ | ⟨q, _⟩
  · exact .inl q
  · exact absurd q (by omega)
theorem sat_la (lim evy : Int) (ls : List Ln) : ∀ k, k ≤ 60 → La (sat ls (w0S lim evy, ds0 1000000) k)
  | 0, _ => la0 lim evy
  | k + 1, h => ((sat_la lim evy ls k (by omega)).step (sat_ok lim evy ls k (by omega)) (by omega) (ls.getD k zl)).1
end Sg
end Go.Proofs.YtngnbkdfbmhndaaGreat
namespace Go.Proofs.YtngnbkdfbmhndaaGreat
open Go.RowKit Go.Maps Go.Sort
namespace Sg
open Vt Dk
attribute [local go_sem ↓] append_hid
abbrev TLn : TypeId := 39
/-- lines that came in -/
def IsL (B : Nat) (w : World) (v : Value) (ls : List Ln) : Prop :=
  (∀ l ∈ ls, l.key.size ≤ 140737488355328 ∧ l.val.size ≤ maxLen) ∧ ls.length ≤ 140737488355328 ∧ ((ls = [] ∧ ∃ a c, v = .slice a 0 c) ∨ ∃ b off c, v = .slice (some ⟨b, off, none⟩) ls.length c ∧ b < B ∧ ∀ k l, ls[k]? = some l → ∀ j u, (lnv l)[j]? = some u → w.cell? ⟨b, off + k * 4 + j, none⟩ = some u)
theorem IsL.shape {B : Nat} {w : World} {v : Value} {ls : List Ln} (h : IsL B w v ls) : ∃ a c, v = .slice a ls.length c := by
  obtain ⟨_, _, ⟨rfl, a, c, rfl⟩ | ⟨b, off, c, rfl, _⟩⟩ := h
  · exact ⟨a, c, rfl⟩
  · exact ⟨_, c, rfl⟩
theorem IsL.below {B : Nat} {w w' : World} {v : Value} {ls : List Ln} (h : IsL B w v ls) (hb : Below B w w') : IsL B w' v ls := by
  obtain ⟨h1, h2, ⟨rfl, a, c, rfl⟩ | ⟨b, off, c, rfl, h3, h4⟩⟩ := h
  · exact ⟨h1, h2, .inl ⟨rfl, a, c, rfl⟩⟩
  · exact ⟨h1, h2, .inr ⟨b, off, c, rfl, h3, fun k l hk j u hu => (hb.cell h3).trans (h4 k l hk j u hu)⟩⟩
theorem IsL.at {B : Nat} {w : World} {a : Option Addr} {n c k : Nat} {ls : List Ln} (h : IsL B w (.slice a n c) ls) (hk : k < ls.length) : ∃ b off l, a = some ⟨b, off, none⟩ ∧ ls[k]? = some l ∧ ls.getD k zl = l ∧ l.key.size ≤ 140737488355328 ∧ l.val.size ≤ maxLen ∧ w.cell? ⟨b, off + k * 4, none⟩ = some (.string l.key) ∧ w.cell? ⟨b, off + k * 4 + 1, none⟩ = some (.string l.val) ∧ w.cell? ⟨b, off + k * 4 + 2, none⟩ = some (.bool l.gone) ∧ w.cell? ⟨b, off + k * 4 + 3, none⟩ = some (.bool l.syn) := by
  obtain ⟨h1, h2, ⟨rfl, _, _, e⟩ | ⟨b, off, c', e, h3, h4⟩⟩ := h
  · simp at hk
  · injection e with e1 e2 e3
    have hg : ls[k]? = some ls[k] := List.getElem?_eq_getElem hk
    have hm := h1 _ (List.getElem_mem hk)
    exact ⟨b, off, ls[k], e1, hg, by rw [List.getD_eq_getElem?_getD, hg]; rfl, hm.1, hm.2, h4 k _ hg 0 _ rfl, h4 k _ hg 1 _ rfl, h4 k _ hg 2 _ rfl, h4 k _ hg 3 _ rfl⟩
theorem jr_same {E : TypeId} {sz : Nat} {w w' : World} {base : Nat} {v : Value} {l : List (List Value)} (h : JR E sz w base v l) (hb : ∀ g, v.ownBlock = some g → w'.heap[g]? = w.heap[g]?) : JR E sz w' base v l := by
  obtain ⟨h0, h1, ⟨h2, h3⟩ | ⟨g, cap, cur, h2, h3, h4, h5⟩⟩ := h
  · exact ⟨h0, h1, .inl ⟨h2, h3⟩⟩
  · exact ⟨h0, h1, .inr ⟨g, cap, cur, h2, h3, (hb g (by rw [h2]; rfl)).trans h4, h5⟩⟩
theorem WK.grown {w w' : World} {b d : Nat} {O : Nat → Prop} {W : Ws} {S : Ds} (h : WK w b d O W S) {row : Option Nat} (hg : w.grownBy w' row) (hn : ∀ r, row = some r → ¬ O r ∧ r ≠ b) : WK w' b d O W S :=
  ⟨h.1.keep (fun x q => hg.block x (h.1.olt x q) (fun e => (hn x e.symm).1 q)) hg.size, (hg.block b h.lt (fun e => (hn b e.symm).2 rfl)).trans h.2.1, h.2.2⟩
def plC (p : Nat × Nat × Nat) : List Value := [.int .u32 (p.1 : Int), .int .i64 (p.2.1 : Int), .int .i64 (p.2.2 : Int)]
theorem info_pl : (Tryz.prog.info? TPl).map (fun i => (i.zero, i.size, i.bytes)) = some (some (.agg #[.int .u32 0, .int .i64 0, .int .i64 0]), 3, 24) := by kernel_rfl
/-- what stands in memory behind k lines -/
structure Wq (B : Nat) (w : World) (b d : Nat) (ls : List Ln) (X : Ws × Ds) (k : Nat) (v : Value) (wq : World) : Prop where
  ex : ∃ O, WK wq b d O (sat ls X k).1 (sat ls X k).2 ∧ (∀ x, O x → B ≤ x) ∧ ∀ g, v.ownBlock = some g → ¬ O g ∧ g ≠ b
  row : JR TPl 3 wq B v ((pls ls X k).map plC)
  bel : Below B w wq
  le : B ≤ b
theorem Wq.bels {B : Nat} {w : World} {b d : Nat} {ls : List Ln} {X : Ws × Ds} {k : Nat} {v : Value} {wq w' : World} (h : Wq B w b d ls X k v wq) (hb : Below wq.heap.size wq w') (hB : B ≤ wq.heap.size) : Wq B w b d ls X k v w' := by
  obtain ⟨O, h1, h2, h3⟩ := h.ex
  exact ⟨⟨O, h1.below hb, h2, h3⟩, h.row.keepAll hb, h.bel.trans (hb.mono hB), h.le⟩
/-- what a Put, and a Sync if it is asked for, leave of it -/
theorem Wq.put {B : Nat} {w : World} {b d : Nat} {ls : List Ln} {X : Ws × Ds} {k : Nat} {v : Value} {wq : World} (h : Wq B w b d ls X k v wq) {lim evy : Nat} (hok : Ok lim evy k (sat ls X k)) (hk : k < 60) (l : Ln) (hB : B ≤ wq.heap.size) :
    Calls Tryz.prog 9 #[.pointer (some ⟨b, 0, none⟩), .agg (rv (lnR l k))] wq fun e w' => e = .returned (.tuple #[.agg #[.int .u32 ((plc l k (sat ls X k)).1 : Int), .int .i64 ((plc l k (sat ls X k)).2.1 : Int), .int .i64 ((plc l k (sat ls X k)).2.2 : Int)], .int .i64 0]) ∧ (∃ O, WK w' b d O (pt (sat ls X k).1 (sat ls X k).2 (fB l k)).2.1 (pt (sat ls X k).1 (sat ls X k).2 (fB l k)).2.2 ∧ (∀ x, O x → B ≤ x) ∧ ∀ g, v.ownBlock = some g → ¬ O g ∧ g ≠ b) ∧ JR TPl 3 w' B v ((pls ls X k).map plC) ∧ Below B w w' ∧ B ≤ w'.heap.size := by
  obtain ⟨O, h1, h2, h3⟩ := h.ex
  obtain ⟨s1, s2, s3, s4, s5, s6, _⟩ := hok.step hk l
  have hfl := lnR_len l k (by omega)
  have hop : (sat ls X k).1.op = true := by rcases hok.at_ with ⟨_, q⟩ | ⟨_, _, _, _, q, _⟩ <;> exact q.op
  have hnum : (sat ls X k).1.num ≠ 0 → Nam.Nu (sat ls X k).1.num := by
    rcases hok.at_ with ⟨_, q⟩ | ⟨_, o, c, s, q, q2, _, _⟩
    · intro e; exact absurd q.num e
    · intro _; rw [q.num]; exact ⟨by omega, by omega⟩
  have hun : (sat ls X k).1.uns ≠ 0 → (sat ls X k).1.num ≠ 0 := by
    rcases hok.at_ with ⟨_, q⟩ | ⟨_, o, c, s, q, q2, _, _⟩
    · intro e; exact absurd q.uns e
    · intro _; rw [q.num]; omega
  have hla : (sat ls X k).1.laid < 1000000000 := by
    rcases hok.at_ with ⟨_, q⟩ | ⟨_, o, c, s, q, q2, q3, _⟩
    · rw [q.laid]; omega
    · rw [q.laid]; omega
  refine (put_is wq b d O _ _ (lnR l k) h1 hop (by have := hok.acts; omega) hnum hun (lnR_wf l k (by omega)) (lnR_rf l k) hla (by omega) (by have := hok.uns; omega)).mono ?_
  rintro e w' ⟨rfl, O', k1, k2, k3⟩
  have hs1 : (pt (sat ls X k).1 (sat ls X k).2 (en (ofR (lnR l k)))).1 = 0 := s1
  refine ⟨?_, ⟨O', k1, fun x q => (k3 x q).elim (h2 x) (fun q => Nat.le_trans hB q), fun g hg => ⟨fun q => (k3 g q).elim (h3 g hg).1 (fun q => by have := h.row.blk_lt g hg; omega), (h3 g hg).2⟩⟩, ?_, ?_, Nat.le_trans hB k2.size⟩
  · rw [if_pos hs1, hs1]; rfl
  · exact jr_same h.row fun g hg => k2.block g (h.row.blk_lt g hg) (fun q => q.elim (h3 g hg).1 (h3 g hg).2)
  · exact h.bel.trans (k2.below (fun x q => q.elim (h2 x) (fun e => by rw [e]; exact h.le)) hB)
theorem ex_app {B : Nat} {w3 w4 w5 : World} {b d : Nat} {W : Ws} {S : Ds} {v : Value} {g' n cap : Nat} (hB4 : Below w3.heap.size w3 w4) (hex : ∃ O, WK w3 b d O W S ∧ (∀ x, O x → B ≤ x) ∧ ∀ g, v.ownBlock = some g → ¬ O g ∧ g ≠ b) (hg : w4.grownBy w5 v.ownBlock) (ho : v.ownBlock = some g' ∨ g' = w4.heap.size) :
    ∃ O, WK w5 b d O W S ∧ (∀ x, O x → B ≤ x) ∧ ∀ g, (Value.slice (some ⟨g', 0, none⟩) n cap).ownBlock = some g → ¬ O g ∧ g ≠ b := by
  obtain ⟨O, h1, h2, h3⟩ := hex
  have h4 := h1.below hB4
  refine ⟨O, h4.grown hg h3, h2, fun g e => ?_⟩
  have e' : g' = g := by injection e
  subst e'
  rcases ho with ho | ho
  · exact h3 _ ho
  · rw [ho]
    exact ⟨fun q => by have := h4.1.olt _ q; omega, by have := h4.lt; omega⟩
theorem app_all {B : Nat} {w w3 w5 : World} {b d : Nat} {W : Ws} {S : Ds} {v : Value} {g' n cap : Nat} {l : List (List Value)} {A A' : Obj} (hex : ∃ O, WK w3 b d O W S ∧ (∀ x, O x → B ≤ x) ∧ ∀ g, v.ownBlock = some g → ¬ O g ∧ g ≠ b) (hrow : JR TPl 3 w3 B v l) (hbel : Below B w w3) (hB : B ≤ w3.heap.size) (hg : ((w3.alloc A).alloc A').grownBy w5 v.ownBlock) (ho : v.ownBlock = some g' ∨ g' = ((w3.alloc A).alloc A').heap.size) :
    (∃ O, WK w5 b d O W S ∧ (∀ x, O x → B ≤ x) ∧ ∀ g, (Value.slice (some ⟨g', 0, none⟩) n cap).ownBlock = some g → ¬ O g ∧ g ≠ b) ∧ Below B w w5 ∧ B ≤ w5.heap.size := by
  have hb4 := below_two w3 A A'
  have h4 : B ≤ ((w3.alloc A).alloc A').heap.size := Nat.le_trans hB hb4.size
  exact ⟨ex_app hb4 hex hg ho, (hbel.trans (hb4.mono hB)).grown hg h4 (fun r hr => hrow.blk_ge r hr), Nat.le_trans h4 hg.size⟩
theorem ex_sync {B : Nat} {w5 w6 : World} {b d : Nat} {O : Nat → Prop} {W : Ws} {S : Ds} {v : Value} (h2 : ∀ x, O x → B ≤ x) (h3 : ∀ g, v.ownBlock = some g → ¬ O g ∧ g ≠ b) (hB : B ≤ w5.heap.size) (hlt : ∀ g, v.ownBlock = some g → g < w5.heap.size) (h : Nw O w5 b d W S w6) : ∃ O, WK w6 b d O W S ∧ (∀ x, O x → B ≤ x) ∧ ∀ g, v.ownBlock = some g → ¬ O g ∧ g ≠ b := by
  obtain ⟨O', k1, k2, k3⟩ := h
  exact ⟨O', k1, fun x q => (k3 x q).elim (h2 x) (fun q => Nat.le_trans hB q), fun g hg => ⟨fun q => (k3 g q).elim (h3 g hg).1 (fun q => by have := hlt g hg; omega), (h3 g hg).2⟩⟩
set_option maxRecDepth 100000 in
set_option maxHeartbeats 1000000 in
theorem written_is (B : Nat) (w : World) (b d : Nat) (O : Nat → Prop) (lim evy : Int) (v : Value) (ls : List Ln) (h : WK w b d O (w0S lim evy) (ds0 1000000)) (hO : ∀ x, O x → B ≤ x) (hbB : B ≤ b) (hBs : B ≤ w.heap.size) (hL : IsL B w v ls) :
    Calls Tryz.prog 19 #[.pointer (some ⟨b, 0, none⟩), v] w fun e w' => ∃ u, e = .returned (.tuple #[u, .bool true]) ∧ Wq B w b d ls (w0S lim evy, ds0 1000000) (min ls.length 60) u w' := by
  obtain ⟨a, c, rfl⟩ := hL.shape
  obtain ⟨X, hX⟩ : ∃ X, X = (w0S lim evy, ds0 1000000) := ⟨_, rfl⟩
  have HOK : Hid (∀ k, k ≤ 60 → Ok (64 + pk lim 400) (pk evy 6) k (sat ls X k)) := by rw [hX]; exact sat_ok lim evy ls
  have H0 : Hid (Wq B w b d ls X 0 (.slice none 0 0) w) := by
    refine ⟨⟨O, ?_, hO, fun g hg => by cases hg⟩, jr_nil w B, Below.refl _ _, hbB⟩
    rw [hX]; exact h
  have HL := hd hL
  rw [← hX]
  have hBm : ls.length ≤ 140737488355328 := hL.2.1
  clear h hO hbB hL hX
  go_enter Tryz.func19, Tryz.ntmps19
  go_wp2_with fail
  go_loopw [6, 7] (fun u i wq => ∃ k : Nat, k ≤ ls.length ∧ k ≤ 60 ∧ i = .int .i64 (k : Int) ∧ Wq B w b d ls X k u wq) (fun _ i _ => ls.length - (intOf i).toNat)
  case atStart => exact ⟨0, by omega, by omega, rfl, H0.out⟩
  case round =>
    obtain ⟨k, hk, hk6, rfl, hW⟩ := hrel
    have HW := hd hW
    clear hW
    by_cases hlt : k < ls.length
    · by_cases h60 : k < 60
      · obtain ⟨lb, off, l, rfl, hlk, hgd, hks, hvs, d0, d1, d2, d3⟩ := (HL.out.below HW.out.bel).at hlt
        have HLS := hd hgd
        clear hlk hgd
        have hBr : B ≤ wr.heap.size := Nat.le_trans hBs HW.out.bel.size
        go_wp2_with fail
        refine Calls.mono (record_is l k wr hks hvs (by omega)) ?_
        rintro e w2 ⟨rfl, hB2⟩
        have hW2 := HW.out.bels hB2 hBr
        have HPU := hd (hW2.put (HOK.out k hk6) h60 l (Nat.le_trans hBr hB2.size))
        have HD3 : Hid (∀ w', Below B w w' → w'.cell? ⟨lb, off + k * 4 + 3, none⟩ = some (.bool l.syn)) := by
          intro w' hb'
          obtain ⟨lb', off', l', e1, _, e2, _, _, _, _, _, q3⟩ := (HL.out.below hb').at hlt
          injection e1 with e1
          injection e1 with e1 e4
          subst e1 e4
          rw [← HLS.out, e2]; exact q3
        have hst := (HOK.out k hk6).step h60 l
        have HNX : Hid (sat ls X (k + 1) = stp l k (sat ls X k) ∧ pls ls X (k + 1) = pls ls X k ++ [plc l k (sat ls X k)]) := by
          rw [← HLS.out]; exact ⟨rfl, rfl⟩
        have HPL := hd (pls_len ls X k)
        have HLE := hd HW.out.le
        clear hB2 hW2 d0 d1 d2 d3
        have HST := hd hst
        clear hst
        obtain ⟨⟨p1, p2, p3⟩, hp⟩ : ∃ p, plc l k (sat ls X k) = p := ⟨_, rfl⟩
        rw [hp] at HPU HNX
        clear hp
        have HCC : Hid (∀ (ww : World) (A : Obj) (j : Nat) (u : Value), ([.int .u32 (p1 : Int), .int .i64 (p2 : Int), .int .i64 (p3 : Int)] : List Value)[j]? = some u → ((ww.alloc A).alloc (.cells #[.int .u32 (p1 : Int), .int .i64 (p2 : Int), .int .i64 (p3 : Int)] TPl)).cell? ⟨ww.heap.size + 1, j, none⟩ = some u) := by
          intro ww A j u hu
          have := Blk.new (ww.alloc A) TPl [.int .u32 (p1 : Int), .int .i64 (p2 : Int), .int .i64 (p3 : Int)]
          rw [alloc_size] at this
          exact this.cell j u hu
        go_wp2_with fail
        refine Calls.mono HPU.out ?_
        rintro e w3 ⟨rfl, hex, hrow, hbel, hBs3⟩
        have HEX := hd hex
        have HROW := hd hrow
        have HBEL := hd hbel
        clear hex hrow hbel
        have HONE : Hid (∀ u ∈ ([.int .u32 (p1 : Int), .int .i64 (p2 : Int), .int .i64 (p3 : Int)] : List Value), u.oneCell' = true) := by
          intro u hu; simp at hu; rcases hu with rfl | rfl | rfl <;> rfl
        cases hsy : l.syn
        · have HSY := hd hsy
          rw [hsy] at HD3
          clear hsy
          go_wp2_with (at_builtin; refine wpList_append_jr Tryz.underlying66 info_pl rfl (by decide) _ rfl _ _ rfl B u6 ((pls ls X k).map plC) (w3.heap.size + 1) 1 [.int .u32 (p1 : Int), .int .i64 (p2 : Int), .int .i64 (p3 : Int)] rfl rfl ((HROW.out.alloc _).alloc _) rfl HONE.out (HCC.out w3 _) (k + 1) (by rw [List.length_map, HPL.out]) (by omega) (by unfold maxLen; omega) (by rw [alloc_size, alloc_size]; omega) ?_; intro g' cap w5 hJ5 hg5 ho5; have hz := app_all (n := k + 1) (cap := cap) HEX.out HROW.out HBEL.out hBs3 hg5 ho5; have e3 := HD3.out w5 hz.2.1; have HZ := hd hz; have HJ5 := hd hJ5; clear hJ5 hg5 ho5 hz)
          go_roundw
          case rel =>
            refine ⟨k + 1, by omega, by omega, by go_num, ?_⟩
            have hs1 : sat ls X (k + 1) = (pt (sat ls X k).1 (sat ls X k).2 (fB l k)).2 := by rw [HNX.out.1]; unfold stp; rw [HSY.out]; rfl
            refine ⟨?_, ?_, HZ.out.2.1, HLE.out⟩
            · rw [hs1]; exact HZ.out.1
            · rw [HNX.out.2, List.map_append]; exact HJ5.out
          case measure => simp [intOf]; omega
        · have HSY := hd hsy
          rw [hsy] at HD3
          clear hsy
          go_wp2_with (at_builtin; refine wpList_append_jr Tryz.underlying66 info_pl rfl (by decide) _ rfl _ _ rfl B u6 ((pls ls X k).map plC) (w3.heap.size + 1) 1 [.int .u32 (p1 : Int), .int .i64 (p2 : Int), .int .i64 (p3 : Int)] rfl rfl ((HROW.out.alloc _).alloc _) rfl HONE.out (HCC.out w3 _) (k + 1) (by rw [List.length_map, HPL.out]) (by omega) (by unfold maxLen; omega) (by rw [alloc_size, alloc_size]; omega) ?_; intro g' cap w5 hJ5 hg5 ho5; have hz := app_all (n := k + 1) (cap := cap) HEX.out HROW.out HBEL.out hBs3 hg5 ho5; have e3 := HD3.out w5 hz.2.1; have HZ := hd hz; have HJ5 := hd hJ5; clear hJ5 hg5 ho5 hz)
          obtain ⟨O5, hk5, ho5', hv5⟩ := HZ.out.1
          have hun : (pt (sat ls X k).1 (sat ls X k).2 (fB l k)).2.1.uns ≠ 0 → Nam.Nu (pt (sat ls X k).1 (sat ls X k).2 (fB l k)).2.1.num := fun _ => HST.out.2.2.2.2.2.1
          have HWS := hd (wsync_is w5 b d O5 _ _ hk5 HST.out.2.2.2.1 (by have := HST.out.2.2.2.2.1; omega) hun)
          rw [HST.out.2.1] at HWS
          have HO5 := hd ho5'
          have HV5 := hd hv5
          clear hk5 ho5' hv5 hun
          refine Calls.mono HWS.out ?_
          rintro e w6 ⟨rfl, hN6⟩
          have hlt5 : ∀ g, (Value.slice (some ⟨g', 0, none⟩) (k + 1) cap).ownBlock = some g → g < w5.heap.size := HJ5.out.blk_lt
          have HE6 := hd (ex_sync HO5.out HV5.out HZ.out.2.2 hlt5 hN6)
          have HN6 := hd hN6
          clear hN6 hlt5
          go_wp2_with fail
          go_roundw
          case rel =>
            refine ⟨k + 1, by omega, by omega, by go_num, ?_⟩
            have hs1 : sat ls X (k + 1) = (syR (pt (sat ls X k).1 (sat ls X k).2 (fB l k)).2.1 (pt (sat ls X k).1 (sat ls X k).2 (fB l k)).2.2).2 := by rw [HNX.out.1]; unfold stp; rw [HSY.out]; rfl
            obtain ⟨O6, _, q2, _⟩ := HN6.out
            refine ⟨?_, ?_, ?_, HLE.out⟩
            · rw [hs1]; exact HE6.out
            · rw [HNX.out.2, List.map_append]
              exact jr_same HJ5.out fun g hg => q2.block g (HJ5.out.blk_lt g hg) (fun q => q.elim (HV5.out g hg).1 (HV5.out g hg).2)
            · exact HZ.out.2.1.trans (q2.below (fun x q => q.elim (HO5.out x) (fun e => by rw [e]; exact HLE.out)) HZ.out.2.2)
          case measure => simp [intOf]; omega
      · obtain rfl : k = 60 := by omega
        go_wp2_with fail
        go_ret2
        exact ⟨_, rfl, by rw [show min ls.length 60 = 60 by omega]; exact HW.out⟩
    · obtain rfl : k = ls.length := by omega
      go_wp2_with fail
      go_ret2
      exact ⟨_, rfl, by rw [show min ls.length 60 = ls.length by omega]; exact HW.out⟩
end Sg
end Go.Proofs.YtngnbkdfbmhndaaGreat
namespace Go.Proofs.YtngnbkdfbmhndaaGreat
open Go.RowKit Go.Maps Go.Sort
namespace Dk
open Vt
/-- cell by cell -/
theorem FLs.at {w : World} {lo : Nat} {v : Value} {l : List (ByteArray × List Nat)} (h : FLs w lo v l) {k : Nat} {s : ByteArray} {x : List Nat} (hk : l[k]? = some (s, x)) : ∃ g c ua uc, v = .slice (some ⟨g, 0, none⟩) l.length c ∧ l.length ≤ c ∧ c ≤ maxLen ∧ w.cell? ⟨g, k * 2, none⟩ = some (.string s) ∧ w.cell? ⟨g, k * 2 + 1, none⟩ = some (.slice ua x.length uc) ∧ JB w lo (.slice ua x.length uc) x := by
  obtain ⟨cs, rfl, hP, hc⟩ := h
  rw [List.getElem?_map] at hk
  obtain ⟨c, hck, hcx⟩ := Option.map_eq_some_iff.1 hk
  injection hcx with h1 h2
  subst h1 h2
  have hJ := hc c (List.mem_of_getElem? hck)
  obtain ⟨ua, uc, hu, _⟩ := hJ.shape
  obtain ⟨_, h0, ⟨rfl, hn⟩ | ⟨g, cap, cur, rfl, hge, hh, hl, hm, hsz, ht⟩⟩ := hP
  · rw [List.length_map] at hn
    rw [List.eq_nil_of_length_eq_zero hn] at hck
    cases hck
  · rw [List.length_map] at hl ht
    have hp := Ow.pc_at (cs.map fun c => (Value.string c.1, c.2.2)) k (.string c.1, c.2.2) (by rw [List.getElem?_map, hck]; rfl)
    have hcell : ∀ j u, (Ow.pc (cs.map fun c => (Value.string c.1, c.2.2)))[j]? = some u → w.cell? ⟨g, j, none⟩ = some u := by
      intro j u hj
      rw [← ht, List.getElem?_take] at hj
      split at hj
      · simp only [World.cell?, hh]
        simpa using hj
      · cases hj
    refine ⟨g, cap, ua, uc, by simp, by simpa using hl, hm, hcell _ _ hp.1, ?_, by rw [← hu]; exact hJ⟩
    rw [← hu]; exact hcell _ _ hp.2
end Dk
end Go.Proofs.YtngnbkdfbmhndaaGreat
