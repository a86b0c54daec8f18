/-
  A WRITER ON A DISK WITHOUT FAULTS, PLAINLY: what its segments hold.
-/
import Derived.Test.YtolddolfpnkndaaGreatXsbh
namespace Go.Proofs.YtolddolfpnkndaaGreat
open Go.RowKit
namespace Sg
open Vt Dk
def files (k : Nat) : List (List Nat) → List Fi
  | [] => []
  | x :: r => ⟨nmS k, x, x.length⟩ :: files (k + 1) r
theorem files_snoc (k : Nat) (a : List (List Nat)) (x : List Nat) : files k (a ++ [x]) = files k a ++ [⟨nmS (k + a.length), x, x.length⟩] := by
  induction a generalizing k with
  | nil => rfl
  | cons y r ih => show _ :: files (k + 1) (r ++ [x]) = _ :: _; rw [ih, List.length_cons, show k + 1 + r.length = k + (r.length + 1) by omega]; rfl
theorem files_nm {k : Nat} {a : List (List Nat)} {f : Fi} (h : f ∈ files k a) : ∃ j, k ≤ j ∧ j < k + a.length ∧ f.nm = nmS j := by
  induction a generalizing k with
  | nil => cases h
  | cons y r ih =>
    rcases List.mem_cons.1 h with rfl | h
    · exact ⟨k, Nat.le_refl _, by simp, rfl⟩
    · obtain ⟨j, h1, h2, h3⟩ := ih h
      exact ⟨j, by omega, by rw [List.length_cons]; omega, h3⟩
theorem files_has {k j : Nat} {a : List (List Nat)} (h1 : k ≤ j) (h2 : j < k + a.length) : ∃ f ∈ files k a, f.nm = nmS j := by
  induction a generalizing k with
  | nil => simp at h2; omega
  | cons y r ih =>
    by_cases e : j = k
    · exact ⟨_, List.mem_cons_self, by rw [e]⟩
    · obtain ⟨f, hf, hn⟩ := ih (k := k + 1) (by omega) (by rw [List.length_cons] at h2; omega)
      exact ⟨f, List.mem_cons_of_mem _ hf, hn⟩
theorem files_len (k : Nat) (a : List (List Nat)) : (files k a).length = a.length := by
  induction a generalizing k with
  | nil => rfl
  | cons y r ih => show (_ :: _).length = _; rw [List.length_cons, ih, List.length_cons]
theorem nmS_bl (n : Nat) : bl (nmS n) = Nam.mk 1 n := by
  unfold nmS; exact bl_str (Nam.mk_byt 1 n)
theorem nmS_isNm (n : Nat) : isNm (nmS n) = true := by
  have h : (nmS n).size = 16 := by unfold nmS; rw [str_size (Nam.mk_byt 1 n), Nam.mk_len]; rfl
  unfold isNm; rw [h]; rfl
theorem nmS_tk {n : Nat} (h : Nam.Nu n) : Nam.tk 1 (bl (nmS n)) = n := by
  rw [nmS_bl]; exact (Nam.tk_mk (.inl rfl) h rfl).1
/-- files 1 to m: the fresh number is m + 1 -/
theorem fr_files (a : List (List Nat)) (ha : a.length + 1 < 4294967296) : fr (files 1 a) = a.length + 1 := by
  refine Nam.FrOk.one (fr_ok _) ⟨by omega, by unfold nms; rw [List.length_map, files_len]; exact Nat.le_refl _, ?_, ?_⟩
  · intro l hl
    obtain ⟨f, hf, rfl⟩ := List.mem_map.1 hl
    obtain ⟨j, h1, h2, h3⟩ := files_nm hf
    rw [h3, nmS_tk ⟨by omega, by omega⟩]; omega
  · intro m m1 m2
    obtain ⟨f, hf, hn⟩ := files_has (a := a) m1 (by omega)
    exact ⟨_, List.mem_map_of_mem hf, by rw [hn, nmS_tk ⟨by omega, by omega⟩]⟩
theorem upd_last {A : List Fi} {x : Fi} (hn : (A ++ [x]).Pairwise fun a b => a.nm ≠ b.nm) (g : Fi → Fi) : upd (A ++ [x]) x.nm g = A ++ [g x] := by
  unfold upd
  rw [List.map_append, List.map_singleton, if_pos rfl]
  congr 1
  conv => rhs; rw [← List.map_id A]
  refine List.map_congr_left fun f hf => ?_
  rw [if_neg ((List.pairwise_append.1 hn).2.2 f hf x (List.mem_singleton.2 rfl))]; rfl
/-- no fault is to come -/
structure Nf (S : Ds) : Prop where
  down : S.down = false
  fail : S.fail = 0
  brk : S.brk = 0
theorem Nf.tick {S : Ds} (h : Nf S) : Nf (tick S) := ⟨h.down, by show S.fail - 1 = 0; rw [h.fail], by show S.brk - 1 = 0; rw [h.brk]⟩
theorem run_nf {S : Ds} (h : Nf S) (g : Ds → Ds) : run S g = (0, g (tick S)) := by
  unfold run; rw [if_neg (by rw [h.brk]; omega), if_neg (by rw [h.fail]; omega)]
theorem act_nf {S : Ds} (h : Nf S) (g : Ds → Ds) : actOf S 0 g = (0, g (tick S)) := by unfold actOf; rw [if_neg (by omega)]; exact run_nf h g
theorem look_nf {S : Ds} (h : Nf S) {s : ByteArray} {f : Fi} (hs : isNm s = true) (hg : get S.fs s = some f) : Dk.look S s true = 0 := by
  unfold Dk.look bar; rw [h.down, hs, hg]; rfl
/-- what a writer with a segment at hand has made of a disk -/
structure Iv (W : Ws) (S : Ds) (old : List (List Nat)) (cur : List Nat) (las : Nat) : Prop where
  num : W.num = old.length + 1
  laid : W.laid = cur.length
  fs : S.fs = files 1 old ++ [⟨nmS (old.length + 1), cur, las⟩]
  uns : W.uns = 0 → las = cur.length
  op : W.op = true
  nf : Nf S
  good : Dk.Good S
structure Iv0 (W : Ws) (S : Ds) : Prop where
  num : W.num = 0
  laid : W.laid = 0
  fs : S.fs = []
  uns : W.uns = 0
  op : W.op = true
  nf : Nf S
  good : Dk.Good S
theorem Iv.get {W : Ws} {S : Ds} {old : List (List Nat)} {cur : List Nat} {las : Nat} (h : Iv W S old cur las) : get S.fs (nmS W.num) = some ⟨nmS (old.length + 1), cur, las⟩ := by
  have := get_of_mem h.good.names (f := ⟨nmS (old.length + 1), cur, las⟩) (by rw [h.fs]; exact List.mem_append_right _ (List.mem_singleton.2 rfl))
  rw [h.num]; exact this
theorem Iv.upd {W : Ws} {S : Ds} {old : List (List Nat)} {cur : List Nat} {las : Nat} (h : Iv W S old cur las) (g : Fi → Fi) : upd S.fs (nmS W.num) g = files 1 old ++ [g ⟨nmS (old.length + 1), cur, las⟩] := by
  have hn := h.good.names
  rw [h.fs] at hn ⊢
  rw [h.num]
  exact upd_last hn g
/-- what stays of a disk's numbers -/
structure St (S S' : Ds) (u k : Nat) : Prop where
  cap : S'.cap = S.cap
  used : S'.used = S.used + u
  acts : S'.acts ≤ S.acts + k
theorem St.trans {a b c : Ds} {u v k l : Nat} (h : St a b u k) (g : St b c v l) : St a c (u + v) (k + l) := ⟨g.cap.trans h.cap, by rw [g.used, h.used]; omega, by have := g.acts; have := h.acts; omega⟩
theorem sync_iv {W : Ws} {S : Ds} {old : List (List Nat)} {cur : List Nat} {las : Nat} (h : Iv W S old cur las) : (sync S (nmS W.num)).1 = 0 ∧ Iv { W with uns := 0 } (sync S (nmS W.num)).2 old cur cur.length ∧ St S (sync S (nmS W.num)).2 0 1 := by
  have hl := look_nf h.nf (nmS_isNm W.num) h.get
  unfold sync
  rw [hl, act_nf h.nf]
  refine ⟨rfl, ⟨h.num, h.laid, ?_, fun _ => rfl, h.op, ⟨h.nf.tick.down, h.nf.tick.fail, h.nf.tick.brk⟩, ?_⟩, ⟨rfl, rfl, Nat.le_refl _⟩⟩
  · show Dk.upd S.fs (nmS W.num) _ = _
    rw [h.upd]
  · have hg := h.good.tick
    exact Good.upd (S := Dk.tick S) hg (s := nmS W.num) (g := fun f => { f with las := f.dat.length }) (u := S.used) (f := ⟨nmS (old.length + 1), cur, las⟩) h.get (fun _ => rfl) (fun _ _ => Nat.le_refl _) rfl hg.room
theorem sy_iv {W : Ws} {S : Ds} {old : List (List Nat)} {cur : List Nat} {las : Nat} (h : Iv W S old cur las) : (syR W S).1 = 0 ∧ (syR W S).2.1 = { W with uns := 0 } ∧ Iv { W with uns := 0 } (syR W S).2.2 old cur cur.length ∧ St S (syR W S).2.2 0 1 := by
  unfold syR
  by_cases h0 : W.uns = 0
  · rw [if_pos h0]
    have e : ({ W with uns := 0 } : Ws) = W := by rw [← h0]
    refine ⟨rfl, e.symm, ?_, ⟨rfl, rfl, Nat.le_succ _⟩⟩
    have := h.uns h0
    rw [e, ← this]; exact h
  · rw [if_neg h0]
    obtain ⟨h1, h2, h3⟩ := sync_iv h
    simp only [h1, if_true]
    exact ⟨trivial, trivial, h2, h3⟩
theorem create_nf {S : Ds} (h : Nf S) (hg : Dk.Good S) {a : List (List Nat)} (hfs : S.fs = files 1 a) (ha : a.length + 1 < 4294967296) : (create S (nmS (fr S.fs))).1 = 0 ∧ fr S.fs = a.length + 1 ∧ (create S (nmS (fr S.fs))).2.fs = files 1 a ++ [⟨nmS (a.length + 1), [], 0⟩] ∧ Nf (create S (nmS (fr S.fs))).2 ∧ Dk.Good (create S (nmS (fr S.fs))).2 ∧ St S (create S (nmS (fr S.fs))).2 0 1 := by
  have hf : fr S.fs = a.length + 1 := by rw [hfs]; exact fr_files a ha
  have hn : Dk.get S.fs (nmS (fr S.fs)) = none := by
    rw [get_none]
    intro f hm e
    rw [hfs] at hm
    obtain ⟨j, h1, h2, h3⟩ := files_nm hm
    have := congrArg (fun s => Nam.tk 1 (bl s)) (h3.symm.trans e)
    rw [hf] at this
    change Nam.tk 1 (bl (nmS j)) = Nam.tk 1 (bl (nmS (a.length + 1))) at this
    rw [nmS_tk ⟨by omega, by omega⟩, nmS_tk ⟨by omega, by omega⟩] at this
    omega
  have hr : rCreate S (nmS (fr S.fs)) = 0 := by
    unfold rCreate bar; rw [h.down, nmS_isNm, hn]; rfl
  unfold create
  rw [hr, act_nf h]
  refine ⟨rfl, hf, ?_, ⟨h.tick.down, h.tick.fail, h.tick.brk⟩, ?_, ⟨rfl, rfl, Nat.le_refl _⟩⟩
  · show S.fs ++ [_] = _
    rw [hf, hfs]
  · exact Good.create hg.tick (nmS_isNm _) hn (by have := hg.cnt; show S.fs.length + 1 ≤ S.acts + 1 + 200; omega)
theorem bg_iv {W : Ws} {S : Ds} {old : List (List Nat)} {cur : List Nat} {las : Nat} (h : Iv W S old cur las) (hl : old.length + 2 < 4294967296) : (bgR W S).1 = 0 ∧ (bgR W S).2.1 = { W with uns := 0, num := old.length + 2, laid := 0 } ∧ Iv { W with uns := 0, num := old.length + 2, laid := 0 } (bgR W S).2.2 (old ++ [cur]) [] 0 ∧ St S (bgR W S).2.2 0 2 := by
  obtain ⟨h1, h2, h3, h4⟩ := sy_iv h
  have hfs : (syR W S).2.2.fs = files 1 (old ++ [cur]) := by rw [h3.fs, files_snoc, Nat.add_comm 1]
  have hla : (old ++ [cur]).length = old.length + 1 := by simp
  obtain ⟨c1, c2, c3, c4, c5, c6⟩ := create_nf h3.nf h3.good hfs (by rw [hla]; omega)
  unfold bgR
  rw [if_neg (by rw [h1]; omega)]
  simp only [c1, if_true, h2]
  rw [hla] at c2 c3
  refine ⟨trivial, by rw [c2], ⟨by rw [hla], rfl, ?_, fun _ => rfl, h.op, c4, c5⟩, h4.trans c6⟩
  rw [c3, hla]
theorem bg_iv0 {W : Ws} {S : Ds} (h : Iv0 W S) : (bgR W S).1 = 0 ∧ (bgR W S).2.1 = { W with num := 1, laid := 0 } ∧ Iv { W with num := 1, laid := 0 } (bgR W S).2.2 [] [] 0 ∧ St S (bgR W S).2.2 0 2 := by
  have h1 : syR W S = (0, W, S) := by unfold syR; rw [if_pos h.uns]
  obtain ⟨c1, c2, c3, c4, c5, c6⟩ := create_nf (a := []) h.nf h.good h.fs (by simp)
  unfold bgR
  rw [h1, if_neg (by simp)]
  simp only [c1, if_true]
  refine ⟨trivial, by rw [c2]; rfl, ⟨rfl, rfl, ?_, fun _ => rfl, h.op, c4, c5⟩, ⟨c6.cap, c6.used, Nat.le_succ_of_le c6.acts⟩⟩
  rw [c3]
theorem append_iv {W : Ws} {S : Ds} {old : List (List Nat)} {cur : List Nat} {las : Nat} (h : Iv W S old cur las) (l : List Nat) (hroom : S.used + l.length ≤ S.cap) (k : Nat) : (append S (nmS W.num) l).1 = 0 ∧ Iv { W with laid := W.laid + l.length, uns := k + 1 } (append S (nmS W.num) l).2 old (cur ++ l) las ∧ St S (append S (nmS W.num) l).2 l.length 1 := by
  have hl := look_nf h.nf (nmS_isNm W.num) h.get
  have hr : rAppend S (nmS W.num) l = 0 := by
    unfold rAppend; rw [hl]; simp only [ne_eq, not_true_eq_false, if_false]
    rw [if_neg (by omega)]
  unfold append
  rw [hr, act_nf h.nf]
  refine ⟨rfl, ⟨h.num, by show W.laid + l.length = _; rw [h.laid, List.length_append], ?_, fun q => (by cases q), h.op, ⟨h.nf.tick.down, h.nf.tick.fail, h.nf.tick.brk⟩, ?_⟩, ⟨rfl, rfl, Nat.le_refl _⟩⟩
  · show Dk.upd S.fs (nmS W.num) _ = _
    rw [h.upd]
  · have hg := h.good.tick
    exact Good.upd (S := Dk.tick S) hg (s := nmS W.num) (g := fun f => { f with dat := f.dat ++ l }) (u := S.used + l.length) (f := ⟨nmS (old.length + 1), cur, las⟩) h.get (fun _ => rfl) (fun f hf => by show f.las ≤ (f.dat ++ l).length; rw [List.length_append]; omega) (by show S.used + l.length + cur.length = S.used + (cur ++ l).length; rw [List.length_append]; omega) hroom
theorem ly_iv {W : Ws} {S : Ds} {old : List (List Nat)} {cur : List Nat} {las : Nat} (h : Iv W S old cur las) (l : List Nat) (hroom : S.used + l.length ≤ S.cap) : (ly W S l).1 = 0 ∧ ∃ las' uns', (ly W S l).2.1 = { W with laid := W.laid + l.length, uns := uns' } ∧ Iv { W with laid := W.laid + l.length, uns := uns' } (ly W S l).2.2 old (cur ++ l) las' ∧ St S (ly W S l).2.2 l.length 2 ∧ ((las' = las ∧ uns' = W.uns + 1 ∧ (W.evy = 0 ∨ W.uns + 1 < W.evy)) ∨ (las' = (cur ++ l).length ∧ uns' = 0 ∧ ¬ (W.evy = 0 ∨ W.uns + 1 < W.evy))) := by
  obtain ⟨a1, a2, a3⟩ := append_iv h l hroom W.uns
  unfold ly
  rw [if_neg (by rw [a1]; omega)]
  by_cases he : W.evy = 0 ∨ W.uns + 1 < W.evy
  · rw [if_pos he]
    exact ⟨rfl, las, W.uns + 1, rfl, a2, ⟨a3.cap, a3.used, Nat.le_succ_of_le a3.acts⟩, .inl ⟨rfl, rfl, he⟩⟩
  · rw [if_neg he]
    obtain ⟨s1, s2, s3, s4⟩ := sy_iv a2
    exact ⟨s1, _, 0, s2, s3, a3.trans s4, .inr ⟨rfl, rfl, he⟩⟩
/-- what a Put makes of it: of what was at hand, or of a new one -/
structure Pu (W W' : Ws) (S S' : Ds) (old' : List (List Nat)) (cur0 l : List Nat) (las0 uns0 las' : Nat) : Prop where
  iv : Iv W' S' old' (cur0 ++ l) las'
  lim : W'.lim = W.lim
  evy : W'.evy = W.evy
  st : St S S' l.length 4
  las : (las' = las0 ∧ W'.uns = uns0 + 1 ∧ (W.evy = 0 ∨ uns0 + 1 < W.evy)) ∨ (las' = (cur0 ++ l).length ∧ W'.uns = 0)
theorem pt_new {W W1 : Ws} {S S1 : Ds} {old' : List (List Nat)} {l cur0 : List Nat} {las0 : Nat} (hp : pre W S l.length = (0, W1, S1)) (h : Iv W1 S1 old' cur0 las0) (hlim : W1.lim = W.lim) (hevy : W1.evy = W.evy) (hs : St S S1 0 2) (hroom : S.used + l.length ≤ S.cap) :
    (pt W S l).1 = 0 ∧ (pre W S l.length).2.1.num = old'.length + 1 ∧ (pre W S l.length).2.1.laid = cur0.length ∧ ∃ las', Pu W (pt W S l).2.1 S (pt W S l).2.2 old' cur0 l las0 W1.uns las' := by
  obtain ⟨h1, las', uns', h2, h3, h4, h5⟩ := ly_iv h l (by rw [hs.cap, hs.used]; exact hroom)
  unfold pt
  rw [hp]
  simp only [ne_eq, not_true_eq_false, if_false]
  refine ⟨h1, h.num, h.laid, las', ?_⟩
  rw [h2]
  have h6 := hs.trans h4
  rw [Nat.zero_add] at h6
  refine ⟨h3, hlim, hevy, h6, ?_⟩
  rcases h5 with ⟨a, b, c⟩ | ⟨a, b, c⟩
  · exact .inl ⟨a, b, by rw [← hevy]; exact c⟩
  · exact .inr ⟨a, b⟩
theorem pt_iv {W : Ws} {S : Ds} {old : List (List Nat)} {cur : List Nat} {las : Nat} (h : Iv W S old cur las) (l : List Nat) (hroom : S.used + l.length ≤ S.cap) (hl : old.length + 2 < 4294967296) :
    (pt W S l).1 = 0 ∧ ∃ las', (fit W l.length = true ∧ (pre W S l.length).2.1.num = old.length + 1 ∧ (pre W S l.length).2.1.laid = cur.length ∧ Pu W (pt W S l).2.1 S (pt W S l).2.2 old cur l las W.uns las') ∨ (fit W l.length = false ∧ (pre W S l.length).2.1.num = old.length + 2 ∧ (pre W S l.length).2.1.laid = 0 ∧ Pu W (pt W S l).2.1 S (pt W S l).2.2 (old ++ [cur]) [] l 0 0 las') := by
  by_cases hf : fit W l.length = true
  · obtain ⟨h1, h2, h3, las', h4⟩ := pt_new (l := l) (W1 := W) (S1 := S) (by unfold pre; rw [if_pos hf]) h rfl rfl ⟨rfl, rfl, Nat.le_add_right _ _⟩ hroom
    exact ⟨h1, las', .inl ⟨hf, h2, h3, h4⟩⟩
  · obtain ⟨b1, b2, b3, b4⟩ := bg_iv h hl
    have hp : pre W S l.length = (0, { W with uns := 0, num := old.length + 2, laid := 0 }, (bgR W S).2.2) := by
      unfold pre; rw [if_neg hf]
      rw [← b2, ← b1]
    obtain ⟨h1, h2, h3, las', h4⟩ := pt_new hp b3 rfl rfl b4 hroom
    refine ⟨h1, las', .inr ⟨by simpa using hf, ?_, h3, h4⟩⟩
    rw [h2]; simp
theorem pt_iv0 {W : Ws} {S : Ds} (h : Iv0 W S) (l : List Nat) (hroom : S.used + l.length ≤ S.cap) :
    (pt W S l).1 = 0 ∧ (pre W S l.length).2.1.num = 1 ∧ (pre W S l.length).2.1.laid = 0 ∧ ∃ las', Pu W (pt W S l).2.1 S (pt W S l).2.2 [] [] l 0 0 las' := by
  obtain ⟨b1, b2, b3, b4⟩ := bg_iv0 h
  have hf : ¬ fit W l.length = true := by unfold fit; rw [h.num]; simp
  have hp : pre W S l.length = (0, { W with num := 1, laid := 0 }, (bgR W S).2.2) := by
    unfold pre; rw [if_neg hf]
    rw [← b2, ← b1]
  obtain ⟨h1, h2, h3, las', h4⟩ := pt_new hp b3 rfl rfl b4 hroom
  have hu : W.uns = 0 := h.uns
  rw [show ({ W with num := 1, laid := 0 } : Ws).uns = 0 from hu] at h4
  exact ⟨h1, h2, h3, las', h4⟩
end Sg
end Go.Proofs.YtolddolfpnkndaaGreat
