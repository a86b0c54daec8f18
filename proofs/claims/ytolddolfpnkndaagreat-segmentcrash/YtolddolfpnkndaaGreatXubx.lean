/-
  A DISK THAT BREAKS OFF, PLAINLY: beside one that does not; what its files may be then; what a crash leaves of them.
  RECORDS ON A DISK THAT BREAKS OFF, PLAINLY: what its files may be at any act; what a crash leaves of them then.
-/
import Derived.Test.YtolddolfpnkndaaGreatXubw
namespace Go.Proofs.YtolddolfpnkndaaGreat
open Go.RowKit
namespace Sg
open Vt Dk
section
variable (B : Nat) (dn : Bool)
/-- the disk that breaks off at the B-th act, where the other one has done fewer -/
def Br (S : Ds) : Ds := { S with brk := B - S.acts, done := dn }
theorem tick_br (S : Ds) : tick (Br B dn S) = Br B dn (tick S) := by
  unfold tick Br
  simp only [Nat.sub_sub]
/-- an act on it -/
theorem run_br {S : Ds} (h : Nf S) (hb : S.acts < B) (g : Ds → Ds) (hg : ∀ T : Ds, g (Br B dn T) = Br B dn (g T)) : ((run (Br B dn S) g).1 = 75 ∧ (run (Br B dn S) g).2.down = true ∧ ((run (Br B dn S) g).2.fs = S.fs ∨ (run (Br B dn S) g).2.fs = (g (tick S)).fs)) ∨ (run (Br B dn S) g = (0, Br B dn (g (tick S))) ∧ S.acts + 1 < B) := by
  by_cases e : B - S.acts = 1
  · left
    have e1 : run (Br B dn S) g = (75, { (if dn = true then g (tick (Br B dn S)) else tick (Br B dn S)) with down := true }) := by
      unfold run
      rw [if_pos (show (Br B dn S).brk = 1 from e)]
      rfl
    rw [e1]
    refine ⟨rfl, rfl, ?_⟩
    show (if dn = true then g (tick (Br B dn S)) else tick (Br B dn S)).fs = S.fs ∨ _ = _
    cases dn
    · left; rfl
    · right
      show (g (tick (Br B true S))).fs = _
      rw [tick_br, hg]; rfl
  · right
    have e1 : run (Br B dn S) g = (0, g (tick (Br B dn S))) := by
      unfold run
      rw [if_neg (show ¬ (Br B dn S).brk = 1 from e), if_neg (show ¬ (Br B dn S).fail = 1 from by show ¬ S.fail = 1; rw [h.fail]; omega)]
    rw [e1, tick_br, hg]
    exact ⟨rfl, by omega⟩
/-- what an act brings, beside the other disk's -/
def Rb (r r0 : Nat × Ds) (S : Ds) : Prop := (r.1 = 75 ∧ r.2.down = true ∧ (r.2.fs = S.fs ∨ r.2.fs = r0.2.fs)) ∨ (r.1 = 0 ∧ r.2 = Br B dn r0.2 ∧ r0.2.acts < B)
theorem act_br {S : Ds} (h : Nf S) (hb : S.acts < B) (r : Nat) (hr : r = 0) (g : Ds → Ds) (hg : ∀ T : Ds, g (Br B dn T) = Br B dn (g T)) (ha : ∀ T : Ds, (g T).acts = T.acts) : Rb B dn (actOf (Br B dn S) r g) (actOf S r g) S := by
  subst hr
  have e0 : actOf S 0 g = (0, g (tick S)) := act_nf h g
  have e1 : actOf (Br B dn S) 0 g = run (Br B dn S) g := by unfold actOf; rw [if_neg (by omega)]
  unfold Rb
  rw [e0, e1]
  rcases run_br B dn h hb g hg with h1 | ⟨h1, h2⟩
  · exact .inl h1
  · right
    rw [h1]
    exact ⟨rfl, rfl, by show (g (tick S)).acts < B; rw [ha]; exact h2⟩
theorem sync_br {W : Ws} {S : Ds} {old : List (List Nat)} {cur : List Nat} {las : Nat} (h : Iv W S old cur las) (hb : S.acts < B) : Rb B dn (sync (Br B dn S) (nmS W.num)) (sync S (nmS W.num)) S := by
  have hl := look_nf h.nf (nmS_isNm W.num) h.get
  exact act_br B dn h.nf hb (Dk.look S (nmS W.num) true) hl (gSync (nmS W.num)) (fun _ => rfl) (fun _ => rfl)
theorem append_br {W : Ws} {S : Ds} {old : List (List Nat)} {cur : List Nat} {las : Nat} (h : Iv W S old cur las) (l : List Nat) (hroom : S.used + l.length ≤ S.cap) (hb : S.acts < B) : Rb B dn (append (Br B dn S) (nmS W.num) l) (append S (nmS W.num) l) S := by
  have hl := look_nf h.nf (nmS_isNm W.num) h.get
  have hr : rAppend S (nmS W.num) l = 0 := by
    unfold rAppend; rw [hl]; simp only [ne_eq, not_true_eq_false, if_false]
    rw [if_neg (by omega)]
  exact act_br B dn h.nf hb (rAppend S (nmS W.num) l) hr (gAppend (nmS W.num) l) (fun _ => rfl) (fun _ => rfl)
theorem create_br {S : Ds} (h : Nf S) (hr : rCreate S (nmS (fr S.fs)) = 0) (hb : S.acts < B) : Rb B dn (create (Br B dn S) (nmS (fr S.fs))) (create S (nmS (fr S.fs))) S :=
  act_br B dn h hb (rCreate S (nmS (fr S.fs))) hr (gCreate (nmS (fr S.fs))) (fun _ => rfl) (fun _ => rfl)
/-- what a call of the writer brings, beside the other disk's -/
def Rw (M : List Fi → Prop) (r r0 : Nat × Ws × Ds) : Prop := (r.1 = 75 ∧ r.2.2.down = true ∧ M r.2.2.fs) ∨ (r.1 = 0 ∧ r.2.1 = r0.2.1 ∧ r.2.2 = Br B dn r0.2.2 ∧ r0.2.2.acts < B)
theorem Rw.mono {M M' : List Fi → Prop} {r r0 : Nat × Ws × Ds} (h : Rw B dn M r r0) (hm : ∀ f, M f → M' f) : Rw B dn M' r r0 := by
  rcases h with ⟨a, b, c⟩ | h
  · exact .inl ⟨a, b, hm _ c⟩
  · exact .inr h
theorem sy_br {W : Ws} {S : Ds} {old : List (List Nat)} {cur : List Nat} {las : Nat} (h : Iv W S old cur las) (hb : S.acts < B) : Rw B dn (fun f => f = S.fs ∨ f = (syR W S).2.2.fs) (syR W (Br B dn S)) (syR W S) := by
  unfold syR
  by_cases h0 : W.uns = 0
  · rw [if_pos h0, if_pos h0]
    exact .inr ⟨rfl, rfl, rfl, hb⟩
  · rw [if_neg h0, if_neg h0]
    have h1 := (sync_iv h).1
    rcases sync_br B dn h hb with ⟨a, b, c⟩ | ⟨a, b, c⟩
    · exact .inl ⟨a, b, c⟩
    · right
      refine ⟨a, ?_, b, c⟩
      show (if (sync (Br B dn S) (nmS W.num)).1 = 0 then _ else _) = (if (sync S (nmS W.num)).1 = 0 then _ else _)
      rw [if_pos a, if_pos h1]
theorem bg_br {W : Ws} {S : Ds} {old : List (List Nat)} {cur : List Nat} {las : Nat} (h : Iv W S old cur las) (hl : old.length + 2 < 4294967296) (hb : S.acts < B) : Rw B dn (fun f => f = S.fs ∨ f = (syR W S).2.2.fs ∨ f = (bgR W S).2.2.fs) (bgR W (Br B dn S)) (bgR W S) := by
  obtain ⟨h1, h2, h3, h4⟩ := sy_iv h
  have hfs : (syR W S).2.2.fs = files 1 (old ++ [cur]) := by rw [h3.fs, files_snoc, Nat.add_comm 1]
  have hla : (old ++ [cur]).length = old.length + 1 := by simp
  obtain ⟨c1, c2, c3, c4, c5, c6⟩ := create_nf h3.nf h3.good hfs (by rw [hla]; omega)
  have hr : rCreate (syR W S).2.2 (nmS (fr (syR W S).2.2.fs)) = 0 := by
    by_cases e : rCreate (syR W S).2.2 (nmS (fr (syR W S).2.2.fs)) = 0
    · exact e
    · exfalso
      unfold create actOf at c1
      rw [if_pos e] at c1
      exact e c1
  have e0 : bgR W S = ((create (syR W S).2.2 (nmS (fr (syR W S).2.2.fs))).1, { (syR W S).2.1 with num := fr (syR W S).2.2.fs, laid := 0 }, (create (syR W S).2.2 (nmS (fr (syR W S).2.2.fs))).2) := by
    unfold bgR
    rw [if_neg (by rw [h1]; omega)]
    simp only [c1, if_true]
  rcases sy_br B dn h hb with ⟨a, b, c⟩ | ⟨a, b, c, d⟩
  · have e1 : bgR W (Br B dn S) = syR W (Br B dn S) := by unfold bgR; rw [if_pos (by rw [a]; omega)]
    rw [e1]
    exact .inl ⟨a, b, c.elim .inl fun q => .inr (.inl q)⟩
  · have e1 : bgR W (Br B dn S) = ((create (Br B dn (syR W S).2.2) (nmS (fr (syR W S).2.2.fs))).1, if (create (Br B dn (syR W S).2.2) (nmS (fr (syR W S).2.2.fs))).1 = 0 then { (syR W S).2.1 with num := fr (syR W S).2.2.fs, laid := 0 } else shut (create (Br B dn (syR W S).2.2) (nmS (fr (syR W S).2.2.fs))).1 (syR W S).2.1, (create (Br B dn (syR W S).2.2) (nmS (fr (syR W S).2.2.fs))).2) := by
      unfold bgR
      rw [if_neg (by rw [a]; omega)]
      simp only [b, c]
      rfl
    rw [e1, e0]
    rcases create_br B dn h3.nf hr d with ⟨a', b', c'⟩ | ⟨a', b', c'⟩
    · exact .inl ⟨a', b', c'.elim (fun q => .inr (.inl q)) fun q => .inr (.inr q)⟩
    · exact .inr ⟨a', by show (if _ = 0 then _ else _) = _; rw [if_pos a'], b', c'⟩
theorem bg_br0 {W : Ws} {S : Ds} (h : Iv0 W S) (hb : S.acts < B) : Rw B dn (fun f => f = S.fs ∨ f = (bgR W S).2.2.fs) (bgR W (Br B dn S)) (bgR W S) := by
  have h1 : ∀ T, syR W T = (0, W, T) := fun T => by unfold syR; rw [if_pos h.uns]
  obtain ⟨c1, c2, c3, c4, c5, c6⟩ := create_nf (a := []) h.nf h.good h.fs (by simp)
  have hr : rCreate S (nmS (fr S.fs)) = 0 := by
    by_cases e : rCreate S (nmS (fr S.fs)) = 0
    · exact e
    · exfalso
      unfold create actOf at c1
      rw [if_pos e] at c1
      exact e c1
  have e0 : ∀ T : Ds, bgR W T = ((create T (nmS (fr T.fs))).1, if (create T (nmS (fr T.fs))).1 = 0 then { W with num := fr T.fs, laid := 0 } else shut (create T (nmS (fr T.fs))).1 W, (create T (nmS (fr T.fs))).2) := fun T => by
    unfold bgR
    rw [h1, if_neg (by simp)]
  rw [e0, e0]
  rcases create_br B dn h.nf hr hb with ⟨a', b', c'⟩ | ⟨a', b', c'⟩
  · exact .inl ⟨a', b', c'⟩
  · refine .inr ⟨a', ?_, b', c'⟩
    show (if (create (Br B dn S) (nmS (fr S.fs))).1 = 0 then _ else _) = (if (create S (nmS (fr S.fs))).1 = 0 then _ else _)
    rw [if_pos a', if_pos c1]; rfl
theorem ly_br {W : Ws} {S : Ds} {old : List (List Nat)} {cur : List Nat} {las : Nat} (h : Iv W S old cur las) (l : List Nat) (hroom : S.used + l.length ≤ S.cap) (hb : S.acts < B) : Rw B dn (fun f => f = S.fs ∨ f = (append S (nmS W.num) l).2.fs ∨ f = (ly W S l).2.2.fs) (ly W (Br B dn S) l) (ly W S l) := by
  obtain ⟨a1, a2, a3⟩ := append_iv h l hroom W.uns
  have e0 : ly W S l = if W.evy = 0 ∨ W.uns + 1 < W.evy then (0, { W with laid := W.laid + l.length, uns := W.uns + 1 }, (append S (nmS W.num) l).2) else syR { W with laid := W.laid + l.length, uns := W.uns + 1 } (append S (nmS W.num) l).2 := by
    unfold ly; rw [if_neg (by rw [a1]; omega)]
  rcases append_br B dn h l hroom hb with ⟨a, b, c⟩ | ⟨a, b, c⟩
  · have e1 : ly W (Br B dn S) l = ((append (Br B dn S) (nmS W.num) l).1, shut (append (Br B dn S) (nmS W.num) l).1 W, (append (Br B dn S) (nmS W.num) l).2) := by unfold ly; rw [if_pos (by rw [a]; omega)]
    rw [e1]
    exact .inl ⟨a, b, c.elim .inl fun q => .inr (.inl q)⟩
  · have e1 : ly W (Br B dn S) l = if W.evy = 0 ∨ W.uns + 1 < W.evy then (0, { W with laid := W.laid + l.length, uns := W.uns + 1 }, Br B dn (append S (nmS W.num) l).2) else syR { W with laid := W.laid + l.length, uns := W.uns + 1 } (Br B dn (append S (nmS W.num) l).2) := by
      unfold ly; rw [if_neg (by rw [a]; omega), b]
    rw [e1, e0]
    by_cases he : W.evy = 0 ∨ W.uns + 1 < W.evy
    · rw [if_pos he, if_pos he]
      exact .inr ⟨rfl, rfl, rfl, c⟩
    · rw [if_neg he, if_neg he]
      exact (sy_br B dn a2 c).mono B dn fun f q => q.elim (fun q => .inr (.inl q)) fun q => .inr (.inr q)
end
end Sg
end Go.Proofs.YtolddolfpnkndaaGreat
namespace Go.Proofs.YtolddolfpnkndaaGreat
open Go.RowKit
namespace Sg
open Vt Dk
/-- what the files may be while the k-th record is put, or behind it: L of them last -/
def Ms (rs : Nat → Rec) (k L : Nat) (f : List Fi) : Prop := (f = [] ∧ L = 0) ∨ ∃ init a b las m, f = files 1 (init.map (gdat rs)) ++ [⟨nmS ((init.map (gdat rs)).length + 1), gdat rs (a ++ b), las⟩] ∧ (init ++ [a ++ b]).flatten = List.range m ∧ m ≤ k + 1 ∧ (gdat rs a).length ≤ las ∧ L ≤ (init.flatten ++ a).length
section
variable {rs : Nat → Rec} {N : Nat}
theorem ms_of {W : Ws} {S : Ds} {init : List (List Nat)} {c : List Nat} {las : Nat} (h : Iv W S (init.map (gdat rs)) c las) {a b : List Nat} (hc : c = gdat rs (a ++ b)) {m k L : Nat} (hf : (init ++ [a ++ b]).flatten = List.range m) (hm : m ≤ k + 1) (hl : (gdat rs a).length ≤ las) (hL : L ≤ (init.flatten ++ a).length) : Ms rs k L S.fs :=
  .inr ⟨init, a, b, las, m, by rw [h.fs, hc], hf, hm, hl, hL⟩
/-- all of a segment lasts -/
theorem ms_all {W : Ws} {S : Ds} {init : List (List Nat)} {c : List Nat} (h : Iv W S (init.map (gdat rs)) c c.length) {s : List Nat} (hc : c = gdat rs s) {m k L : Nat} (hf : (init ++ [s]).flatten = List.range m) (hm : m ≤ k + 1) (hL : L ≤ m) : Ms rs k L S.fs := by
  refine ms_of h (a := s) (b := []) (by rw [List.append_nil]; exact hc) (by rw [List.append_nil]; exact hf) hm (by rw [hc]; exact Nat.le_refl _) ?_
  have := congrArg List.length hf
  rw [List.length_range, List.flatten_append] at this
  simp at this ⊢
  omega
/-- the append and what follows -/
theorem ly_ms (B : Nat) (dn : Bool) {W : Ws} {S : Ds} {init : List (List Nat)} {a b : List Nat} {las k L : Nat} (h : Iv W S (init.map (gdat rs)) (gdat rs (a ++ b)) las) (hf : (init ++ [a ++ b]).flatten = List.range k) (hl : (gdat rs a).length ≤ las) (hL : L ≤ (init.flatten ++ a).length) (hLk : L ≤ k) (hroom : S.used + (gB rs k).length ≤ S.cap) (hb : S.acts < B) : Rw B dn (Ms rs k L) (ly W (Br B dn S) (gB rs k)) (ly W S (gB rs k)) := by
  have e1 : (init ++ [a ++ (b ++ [k])]).flatten = List.range (k + 1) := by
    rw [List.flatten_append] at hf ⊢
    simp only [List.flatten_cons, List.flatten_nil, List.append_nil] at hf ⊢
    rw [← List.append_assoc a, ← List.append_assoc, hf, List.range_succ]
  have ec : gdat rs (a ++ b) ++ gB rs k = gdat rs (a ++ (b ++ [k])) := by rw [← List.append_assoc, gdat_app rs (a ++ b), gdat_one]
  obtain ⟨_, a2, _⟩ := append_iv h (gB rs k) hroom W.uns
  obtain ⟨_, las', uns', _, i2, _, i3⟩ := ly_iv h (gB rs k) hroom
  refine (ly_br B dn h (gB rs k) hroom hb).mono B dn fun f hfq => ?_
  rcases hfq with rfl | rfl | rfl
  · exact ms_of h rfl hf (by omega) hl hL
  · exact ms_of a2 ec e1 (Nat.le_refl _) hl hL
  · rcases i3 with ⟨q, _⟩ | ⟨q, _⟩
    · subst q
      exact ms_of i2 ec e1 (Nat.le_refl _) hl hL
    · subst q
      refine ms_all i2 ec e1 (Nat.le_refl _) (by omega)
theorem pt_ms (B : Nat) (dn : Bool) {W : Ws} {S : Ds} {init : List (List Nat)} {a b : List Nat} {las k L : Nat} (h : Iv W S (init.map (gdat rs)) (gdat rs (a ++ b)) las) (hil : init.length ≤ 1000) (hf : (init ++ [a ++ b]).flatten = List.range k) (hl : (gdat rs a).length ≤ las) (hL : L ≤ (init.flatten ++ a).length) (hLk : L ≤ k) (hroom : S.used + (gB rs k).length ≤ S.cap) (hb : S.acts < B) : Rw B dn (Ms rs k L) (pt W (Br B dn S) (gB rs k)) (pt W S (gB rs k)) := by
  by_cases hfit : fit W (gB rs k).length = true
  · have e : ∀ T, pt W T (gB rs k) = ly W T (gB rs k) := fun T => by
      have hp : pre W T (gB rs k).length = (0, W, T) := by unfold pre; rw [if_pos hfit]
      unfold pt; rw [hp]; simp
    rw [e, e]
    exact ly_ms B dn h hf hl hL hLk hroom hb
  · have hp : ∀ T, pre W T (gB rs k).length = bgR W T := fun T => by unfold pre; rw [if_neg hfit]
    obtain ⟨b1, b2, b3, b4⟩ := bg_iv h (by rw [List.length_map]; omega)
    obtain ⟨s1, s2, s3, s4⟩ := sy_iv h
    have e0 : pt W S (gB rs k) = ly (bgR W S).2.1 (bgR W S).2.2 (gB rs k) := by unfold pt; rw [hp, if_neg (by rw [b1]; omega)]
    have hfl : init.flatten ++ (a ++ b) = List.range k := by rw [List.flatten_append] at hf; simpa using hf
    have e2 : ((init ++ [a ++ b]) ++ [([] : List Nat) ++ []]).flatten = List.range k := by rw [List.flatten_append, hf]; simp
    have hmap : init.map (gdat rs) ++ [gdat rs (a ++ b)] = (init ++ [a ++ b]).map (gdat rs) := by rw [List.map_append]; rfl
    rw [hmap] at b3
    rcases bg_br B dn h (by rw [List.length_map]; omega) hb with ⟨x, y, z⟩ | ⟨x, y, z, u⟩
    · left
      have e1 : pt W (Br B dn S) (gB rs k) = bgR W (Br B dn S) := by unfold pt; rw [hp, if_pos (by rw [x]; omega)]
      rw [e1]
      refine ⟨x, y, ?_⟩
      rcases z with q | q | q
      · rw [q]; exact ms_of h rfl hf (by omega) hl hL
      · rw [q]; exact ms_all s3 rfl hf (by omega) hLk
      · rw [q]
        refine ms_of b3 (a := []) (b := []) rfl e2 (by omega) (Nat.zero_le _) ?_
        rw [List.append_nil, hf, List.length_range]; exact hLk
    · have e1 : pt W (Br B dn S) (gB rs k) = ly (bgR W S).2.1 (Br B dn (bgR W S).2.2) (gB rs k) := by unfold pt; rw [hp, if_neg (by rw [x]; omega), y, z]
      rw [e1, e0]
      rw [← b2] at b3
      refine ly_ms B dn (a := []) (b := []) b3 e2 (Nat.zero_le _) (by rw [List.append_nil, hf, List.length_range]; exact hLk) hLk (by rw [b4.used, b4.cap]; omega) u
theorem pt_ms0 (B : Nat) (dn : Bool) {W : Ws} {S : Ds} (h : Iv0 W S) (hroom : S.used + (gB rs 0).length ≤ S.cap) (hb : S.acts < B) : Rw B dn (Ms rs 0 0) (pt W (Br B dn S) (gB rs 0)) (pt W S (gB rs 0)) := by
  have hfit : ¬ fit W (gB rs 0).length = true := by unfold fit; rw [h.num]; simp
  have hp : ∀ T, pre W T (gB rs 0).length = bgR W T := fun T => by unfold pre; rw [if_neg hfit]
  obtain ⟨b1, b2, b3, b4⟩ := bg_iv0 h
  have e0 : pt W S (gB rs 0) = ly (bgR W S).2.1 (bgR W S).2.2 (gB rs 0) := by unfold pt; rw [hp, if_neg (by rw [b1]; omega)]
  rcases bg_br0 B dn h hb with ⟨x, y, z⟩ | ⟨x, y, z, u⟩
  · left
    have e1 : pt W (Br B dn S) (gB rs 0) = bgR W (Br B dn S) := by unfold pt; rw [hp, if_pos (by rw [x]; omega)]
    rw [e1]
    refine ⟨x, y, ?_⟩
    rcases z with q | q
    · rw [q]; exact .inl ⟨h.fs, rfl⟩
    · rw [q]
      exact ms_of (rs := rs) (init := []) b3 (a := []) (b := []) rfl (m := 0) rfl (by omega) (Nat.zero_le _) (Nat.zero_le _)
  · have e1 : pt W (Br B dn S) (gB rs 0) = ly (bgR W S).2.1 (Br B dn (bgR W S).2.2) (gB rs 0) := by unfold pt; rw [hp, if_neg (by rw [x]; omega), y, z]
    rw [e1, e0]
    rw [← b2] at b3
    exact ly_ms (rs := rs) B dn (init := []) (a := []) (b := []) (L := 0) b3 rfl (Nat.zero_le _) (Nat.zero_le _) (Nat.zero_le _) (by rw [b4.used, b4.cap]; omega) u
/-- a segment cut off: its places -/
theorem locs_cut {s : List Nat} (hr : Rok rs N) (hs : ∀ i ∈ s, i < N) (t : Nat) : ∃ q, q ≤ s.length ∧ locs 0 ((gdat rs s).take t) = plf 0 (gfr rs (s.take q)) ∧ ∀ a, a ≤ s.length → (gdat rs (s.take a)).length ≤ t → a ≤ q := by
  have h1 := locs_upto (gdat_byt hr s hs) 0 t
  rw [locs_gdat hr hs] at h1
  simp only [Nat.zero_add] at h1
  obtain ⟨q, q1, q2, q3⟩ := plf_upto t (gfr rs s) 0
  rw [q2] at h1
  have hgl : (gfr rs s).length = s.length := by unfold gfr; rw [List.length_map]
  have hgt : ∀ a, (gfr rs s).take a = gfr rs (s.take a) := fun a => by unfold gfr; rw [List.map_take]
  rw [hgl] at q1 q3
  rw [hgt] at h1
  refine ⟨q, q1, h1.symm, fun a ha hat => q3 a ha ?_⟩
  rw [hgt, ← gdat_ens, Nat.zero_add]; exact hat
/-- what the records of a list of bytes are, where its frames are just those of some records -/
def Isr (rs : Nat → Rec) (s : List Nat) (D : List Nat) : Prop := (recs [1, 2] D).length = s.length ∧ ∀ (k i : Nat), s[k]? = some i → ∃ x : Lc, (recs [1, 2] D)[k]? = some x ∧ x.2.2 = ofR (rs i)
theorem isr_of {s : List Nat} (hr : Rok rs N) (hs : ∀ i ∈ s, i < N) {D : List Nat} (h : locs 0 D = plf 0 (gfr rs s)) : Isr rs s D := by
  have h1 : recs [1, 2] D = recs [1, 2] (gdat rs s) := by unfold recs; rw [h, locs_gdat hr hs]
  unfold Isr
  rw [h1]
  exact ⟨recs_len' hr hs, fun k i hk => recs_at hr hs hk⟩
/-- what Files tells behind a crash -/
theorem cut_ms (hr : Rok rs N) {k L : Nat} (hk : k + 1 ≤ N) {S : Ds} (hm : Ms rs k L S.fs) (hG : Dk.Good S) (hac : S.acts ≤ 1000) (keep : Int) :
    ∃ (p : Nat) (SS : List (List Nat)), L ≤ p ∧ p ≤ k + 1 ∧ SS.flatten = List.range p ∧ (Dk.told (crash keep S) true).length = SS.length ∧ SS.length ≤ 1300 ∧ ∀ (j : Nat) (s : List Nat), SS[j]? = some s → ∃ (nm : ByteArray) (D : List Nat), (Dk.told (crash keep S) true)[j]? = some (nm, D) ∧ D.length ≤ 1000000 ∧ Isr rs s D := by
  have hN := hr.le
  rcases hm with ⟨hf, rfl⟩ | ⟨init, a, b, las, m, hf, g1, hmk, g3, g4⟩
  · have h2 : Dk.told (crash keep S) true = [] := by unfold Dk.told; show ((((S.fs.map (crashed keep)).map fun f => f.nm.data.toList).mergeSort leB).map _) = []; rw [hf]; simp
    rw [h2]
    exact ⟨0, [], Nat.le_refl _, Nat.zero_le _, rfl, rfl, Nat.zero_le _, fun j s h => by simp at h⟩
  · have hmem : ∀ s ∈ init ++ [a ++ b], ∀ i ∈ s, i < N := by
      intro s hs i hi
      have : i ∈ (init ++ [a ++ b]).flatten := List.mem_flatten.2 ⟨s, hs, hi⟩
      rw [g1] at this
      have := List.mem_range.1 this
      omega
    have hm1 : ∀ s ∈ init, ∀ i ∈ s, i < N := fun s hs => hmem s (List.mem_append_left _ hs)
    have hm2 : ∀ i ∈ a ++ b, i < N := hmem (a ++ b) (List.mem_append_right _ (List.mem_singleton.2 rfl))
    have hil : init.length ≤ 1200 := by
      have := hG.cnt
      rw [hf] at this
      simp [files_len] at this
      omega
    have g1' : init.flatten ++ (a ++ b) = List.range m := by
      rw [List.flatten_append] at g1
      simpa using g1
    obtain ⟨t, ht⟩ : ∃ t, t = Dk.left keep ⟨nmS ((init.map (gdat rs)).length + 1), gdat rs (a ++ b), las⟩ := ⟨_, rfl⟩
    have htl : las ≤ t := by rw [ht]; exact Nat.le_add_right _ _
    have hcf : (crash keep S).fs = files 1 (init.map (gdat rs)) ++ [⟨nmS ((init.map (gdat rs)).length + 1), (gdat rs (a ++ b)).take t, ((gdat rs (a ++ b)).take t).length⟩] := by
      show S.fs.map (crashed keep) = _
      rw [hf, List.map_append, files_crashed, ht]
      rfl
    have hiv : Iv ⟨0, 0, true, (init.map (gdat rs)).length + 1, ((gdat rs (a ++ b)).take t).length, 0⟩ (crash keep S) (init.map (gdat rs)) ((gdat rs (a ++ b)).take t) ((gdat rs (a ++ b)).take t).length := ⟨rfl, rfl, hcf, fun _ => rfl, rfl, ⟨rfl, rfl, rfl⟩, hG.crash keep⟩
    have hC := told_iv hiv (by rw [List.length_map]; omega) true
    obtain ⟨q, q1, q2, q3⟩ := locs_cut hr hm2 t
    have hqa : a.length ≤ q := q3 a.length (by simp) (by rw [List.take_left']; exact Nat.le_trans g3 htl; rfl)
    have hlen : ∀ s ∈ init ++ [a ++ b], (gdat rs s).length ≤ 1000000 := by
      intro s hs
      have h1 := gdat_len hr s (hmem s hs)
      have h2 := seg_len g1 hs
      have : 4409 * s.length ≤ 4409 * 102 := Nat.mul_le_mul_left _ (by omega)
      omega
    have h4 := congrArg List.length g1'
    rw [List.length_append, List.length_range] at h4
    refine ⟨init.flatten.length + q, init ++ [(a ++ b).take q], ?_, by omega, ?_, ?_, by simp; omega, fun j s hj => ?_⟩
    · rw [List.length_append] at g4; omega
    · have h3 : (init.flatten ++ (a ++ b)).take (init.flatten.length + q) = init.flatten ++ (a ++ b).take q := by rw [List.take_append, List.take_of_length_le (by omega), Nat.add_sub_cancel_left]
      rw [List.flatten_append]
      show init.flatten ++ [(a ++ b).take q].flatten = _
      rw [show [(a ++ b).take q].flatten = (a ++ b).take q by simp, ← h3, g1', List.take_range, Nat.min_eq_left (by omega)]
    · rw [hC]; simp [files_len]
    · rw [hC]
      by_cases hji : j < init.length
      · rw [List.getElem?_append_left hji] at hj
        have hs := List.mem_of_getElem? hj
        refine ⟨nmS (j + 1), gdat rs s, ?_, hlen s (List.mem_append_left _ hs), isr_of hr (hm1 s hs) (locs_gdat hr (hm1 s hs))⟩
        rw [List.getElem?_append_left (by rw [List.length_map, files_len, List.length_map]; exact hji), List.getElem?_map, files_at 1 (init.map (gdat rs)) j (gdat rs s) (by rw [List.getElem?_map, hj]; rfl), Nat.add_comm 1 j]
        rfl
      · rw [List.getElem?_append_right (by omega)] at hj
        have hj0 : j = init.length := by
          rcases Nat.lt_or_ge (j - init.length) 1 with q | q
          · omega
          · rw [List.getElem?_eq_none (by simpa using q)] at hj; cases hj
        subst hj0
        rw [Nat.sub_self] at hj
        have e0 : (a ++ b).take q = s := by simpa using hj
        subst e0
        refine ⟨nmS ((init.map (gdat rs)).length + 1), (gdat rs (a ++ b)).take t, ?_, ?_, isr_of hr (fun i hi => hm2 i (List.mem_of_mem_take hi)) q2⟩
        · rw [List.getElem?_append_right (by rw [List.length_map, files_len, List.length_map]; exact Nat.le_refl _)]
          simp [files_len]
        · have h2 := hlen (a ++ b) (List.mem_append_right _ (List.mem_singleton.2 rfl))
          rw [List.length_take]; omega
end
end Sg
end Go.Proofs.YtolddolfpnkndaaGreat
