/-
  SegmentCrash's walk: behind a crash, at whatever moment, the records that are there are the first so many of those that were put: at least all that were synced, at most one more than were answered.
-/
import Derived.Test.YtolddolfpnkndaaGreatXubx
import Derived.Test.YtolddolfpnkndaaGreatXubi
import Derived.Test.YtolddolfpnkndaaGreatXuby
import Derived.Test.YtolddolfpnkndaaGreatXuap
import Derived.Deep.MidRow
namespace Go.Proofs.YtolddolfpnkndaaGreat
open Go.RowKit Go.Maps Go.Sort Go.ChangeShapes Go.WideShapes Go.ChangeAt Go.Shelf
namespace Sg
open Vt Dk
def armS (S : Ds) (a f b : Nat) (x : Bool) : Ds := { S with acts := a, fail := f, brk := b, done := x }
theorem armedS {w w1 : World} {d : Nat} {O : Nat → Prop} {S S' : Ds} (h : DK w d O S) (hf : S'.fs = S.fs) (hg : Dk.Good S') (ht : Tr (fun b => b = d) w w1) (hb : ∀ m, Blk w d TD (cells S m) → Blk w1 d TD (cells S' m)) : Nx O w d S' w1 := by
  obtain ⟨m, es, h⟩ := h
  have h1 := h.q.turn ht (hb m h.box)
  exact ⟨O, ⟨m, es, h1.m (hf.trans h.fs) hg⟩, ht.mono (fun x q _ => by rw [q]; exact h.own.1), fun b q => .inl q⟩
theorem good_armS {S : Ds} (h : Dk.Good S) (a f b : Nat) (x : Bool) (ha : S.acts ≤ a) (hf : f < 9223372036854775808) (hb : b < 9223372036854775808) : Dk.Good (armS S a f b x) := ⟨h.cap, h.used, h.room, h.names, h.isnm, h.las, hf, hb, Nat.le_trans h.cnt (Nat.add_le_add_right ha 200)⟩
set_option maxRecDepth 100000 in
theorem breakS_is (w : World) (d : Nat) (O : Nat → Prop) (S : Ds) (n : Nat) (x : Bool) (h : DK w d O S) (hn : n < 9223372036854775808) :
    Calls Tryz.prog 7 #[.pointer (some ⟨d, 0, none⟩), .int .i64 (n : Int), .bool x] w fun e w' => e = .returned (.int .i64 0) ∧ Nx O w d (armS S S.acts S.fail n x) w' := by
  have hx : ∀ w1, Tr (fun b => b = d) w w1 → (∀ m, Blk w d TD (cells S m) → Blk w1 d TD (cells (armS S S.acts S.fail n x) m)) → Nx O w d (armS S S.acts S.fail n x) w1 := fun w1 ht hb => armedS h rfl (good_armS h.good _ _ _ _ (Nat.le_refl _) h.good.fail hn) ht hb
  obtain ⟨m, es, hk⟩ := h
  have c6 := hk.box.cell 6 _ rfl
  have f6 := hk.box.frozen 6
  have c7 := hk.box.cell 7 _ rfl
  have f7 := hk.box.frozen 7
  have HX := hd hx
  clear hk hx
  go_enter Tryz.func7, Tryz.ntmps7
  go_wp2_with fail
  go_ret
  refine ⟨rfl, HX.out _ ((Tr.set (O := fun b => b = d) (p := ⟨d, 6, none⟩) rfl _).trans (Tr.set (O := fun b => b = d) (p := ⟨d, 7, none⟩) rfl _) fun x q => .inl q) fun m hb => ?_⟩
  exact Blk.set (Blk.set (W := w) hb _) _
/-- the lines' records -/
def scR (ls : List Ln) (i : Nat) : Rec := lnR (ls.getD i zl) i
def scS (ls : List Ln) (i : Nat) : Bool := (ls.getD i zl).syn
def scX (_ : Nat) : Nat := 0
theorem scX_le (i : Nat) : scX i ≤ 1 := Nat.zero_le _
theorem sc_ok (ls : List Ln) : Rok (scR ls) 60 := ⟨fun _ _ => lnR_rf _ _, fun _ _ => lnR_wf _ _ (by omega), fun _ _ => Nat.le_trans (lnR_len _ _ (by omega)) (by omega), fun i _ => by unfold scR lnR; cases (ls.getD i zl).gone <;> simp, by omega⟩
/-- a writer and its disk, that breaks off at the B-th act, beside one that doesn't -/
def Cg (B0 : Nat) (w : World) (b d B : Nat) (dn : Bool) (Y : Ws × Ds) (wq : World) : Prop := (∃ O, WK wq b d O Y.1 (Br B dn Y.2) ∧ ∀ x, O x → B0 ≤ x) ∧ Y.2.acts < B ∧ Below B0 w wq ∧ B0 ≤ b ∧ B0 ≤ wq.heap.size
/-- where the walk stands: the k lines are put and the disk has not broken off -/
def Cw (ls : List Ln) (B0 : Nat) (w : World) (b d B : Nat) (dn : Bool) (X : Ws × Ds) (k : Nat) (wq : World) : Prop := Cg B0 w b d B dn (gsat (scR ls) (scS ls) scX X k) wq
/-- behind a put, ahead of the sync -/
noncomputable def scM (ls : List Ln) (X : Ws × Ds) (k : Nat) : Ws × Ds := (pt (gsat (scR ls) (scS ls) scX X k).1 (gsat (scR ls) (scS ls) scX X k).2 (gB (scR ls) k)).2
def Cm (ls : List Ln) (B0 : Nat) (w : World) (b d B : Nat) (dn : Bool) (X : Ws × Ds) (k : Nat) (wq : World) : Prop := Cg B0 w b d B dn (scM ls X k) wq
/-- where it ends: the disk, broken off or not -/
def Ce (ls : List Ln) (B0 : Nat) (w : World) (d told synced : Nat) (wq : World) : Prop := ∃ O S, DK wq d O S ∧ (∀ x, O x → B0 ≤ x) ∧ Below B0 w wq ∧ B0 ≤ wq.heap.size ∧ S.acts ≤ 1000 ∧ told ≤ 40 ∧ ((∃ m, Ms (scR ls) m synced S.fs ∧ m ≤ told ∧ m + 1 ≤ ls.length ∧ m + 1 ≤ 60) ∨ (S.fs = [] ∧ synced = 0))
theorem bfls2_below {w w' : World} {lo : Nat} {v : Value} {l : List (ByteArray × List Nat)} (h : FLs w lo v l) (hb : Below w.heap.size w w') : FLs w' lo v l := h.same fun g _ h2 => hb.block g h2
theorem run_acts (S : Ds) (g : Ds → Ds) (ha : ∀ T : Ds, (g T).acts = T.acts) : (run S g).2.acts = S.acts + 1 := by
  unfold run
  split
  · show (if S.done = true then g (tick S) else tick S).acts = _
    split
    · rw [ha]; rfl
    · rfl
  · split
    · rfl
    · show (g (tick S)).acts = _
      rw [ha]; rfl
theorem act_acts (S : Ds) (r : Nat) (g : Ds → Ds) (ha : ∀ T : Ds, (g T).acts = T.acts) : (actOf S r g).2.acts ≤ S.acts + 1 := by
  unfold actOf
  split
  · exact Nat.le_succ _
  · rw [run_acts S g ha]; exact Nat.le_refl _
theorem sy_acts (W : Ws) (S : Ds) : (syR W S).2.2.acts ≤ S.acts + 1 := by
  unfold syR
  split
  · exact Nat.le_succ _
  · exact act_acts S _ _ (fun _ => rfl)
theorem bg_acts (W : Ws) (S : Ds) : (bgR W S).2.2.acts ≤ S.acts + 2 := by
  have h1 := sy_acts W S
  unfold bgR
  split
  · omega
  · have := act_acts (syR W S).2.2 (rCreate (syR W S).2.2 (nmS (fr (syR W S).2.2.fs))) (gCreate (nmS (fr (syR W S).2.2.fs))) (fun _ => rfl)
    show (create _ _).2.acts ≤ _
    unfold create
    omega
theorem ly_acts (W : Ws) (S : Ds) (l : List Nat) : (ly W S l).2.2.acts ≤ S.acts + 2 := by
  have h1 := act_acts S (rAppend S (nmS W.num) l) (gAppend (nmS W.num) l) (fun _ => rfl)
  have h1' : (append S (nmS W.num) l).2.acts ≤ S.acts + 1 := h1
  unfold ly
  split
  · show (append S (nmS W.num) l).2.acts ≤ _; omega
  · split
    · show (append S (nmS W.num) l).2.acts ≤ _; omega
    · have := sy_acts { W with laid := W.laid + l.length, uns := W.uns + 1 } (append S (nmS W.num) l).2
      omega
theorem pt_acts (W : Ws) (S : Ds) (l : List Nat) : (pt W S l).2.2.acts ≤ S.acts + 4 := by
  have hp : (pre W S l.length).2.2.acts ≤ S.acts + 2 := by
    unfold pre
    split
    · show S.acts ≤ _; omega
    · exact bg_acts W S
  unfold pt
  split
  · omega
  · have := ly_acts (pre W S l.length).2.1 (pre W S l.length).2.2 l
    omega
theorem cut_ce {ls : List Ln} {told synced : Nat} {S : Ds} (h : (∃ m, Ms (scR ls) m synced S.fs ∧ m ≤ told ∧ m + 1 ≤ ls.length ∧ m + 1 ≤ 60) ∨ (S.fs = [] ∧ synced = 0)) (hG : Dk.Good S) (hac : S.acts ≤ 1000) (keep : Int) :
    ∃ (p : Nat) (SS : List (List Nat)), synced ≤ p ∧ p ≤ told + 1 ∧ p ≤ ls.length ∧ p ≤ 60 ∧ SS.flatten = List.range p ∧ (Dk.told (crash keep S) true).length = SS.length ∧ SS.length ≤ 1300 ∧ ∀ (j : Nat) (s : List Nat), SS[j]? = some s → ∃ (nm : ByteArray) (D : List Nat), (Dk.told (crash keep S) true)[j]? = some (nm, D) ∧ D.length ≤ 1000000 ∧ Isr (scR ls) s D := by
  rcases h with ⟨m, hm, h1, h2, h3⟩ | ⟨hf, rfl⟩
  · obtain ⟨p, SS, q1, q2, q3⟩ := cut_ms (sc_ok ls) (by omega) hm hG hac keep
    exact ⟨p, SS, q1, by omega, by omega, by omega, q3⟩
  · have h2 : Dk.told (crash keep S) true = [] := by unfold Dk.told; show ((((S.fs.map (crashed keep)).map fun f => f.nm.data.toList).mergeSort leB).map _) = []; rw [hf]; simp
    rw [h2]
    exact ⟨0, [], Nat.le_refl _, Nat.zero_le _, Nat.zero_le _, Nat.zero_le _, rfl, rfl, Nat.zero_le _, fun j s h => by simp at h⟩
/-- broken off just now -/
def Cf (ls : List Ln) (B0 : Nat) (w : World) (d told synced : Nat) (wq : World) : Prop := (∃ O S, DK wq d O S ∧ S.down = true) ∧ Ce ls B0 w d told synced wq
theorem Cg.below {B0 : Nat} {w : World} {b d B : Nat} {dn : Bool} {Y : Ws × Ds} {wq w' : World} (h : Cg B0 w b d B dn Y wq) (hb : Below wq.heap.size wq w') : Cg B0 w b d B dn Y w' := by
  obtain ⟨⟨O, h1, h2⟩, h3, h4, h5, h6⟩ := h
  exact ⟨⟨O, h1.below hb, h2⟩, h3, h4.trans (hb.mono h6), h5, Nat.le_trans h6 hb.size⟩
theorem dk_below {w w' : World} {d : Nat} {O : Nat → Prop} {S : Ds} (h : DK w d O S) (hb : Below w.heap.size w w') : DK w' d O S := h.aside (Tr.ofB hb (fun _ => False)) (fun _ _ q => q)
theorem Ce.below {ls : List Ln} {B0 : Nat} {w : World} {d told synced : Nat} {wq w' : World} (h : Ce ls B0 w d told synced wq) (hb : Below wq.heap.size wq w') : Ce ls B0 w d told synced w' := by
  obtain ⟨O, S, h1, h2, h3, h4, h5⟩ := h
  exact ⟨O, S, dk_below h1 hb, h2, h3.trans (hb.mono h4), Nat.le_trans h4 hb.size, h5⟩
theorem Cf.below {ls : List Ln} {B0 : Nat} {w : World} {d told synced : Nat} {wq w' : World} (h : Cf ls B0 w d told synced wq) (hb : Below wq.heap.size wq w') : Cf ls B0 w d told synced w' := by
  obtain ⟨⟨O, S, h1, h2⟩, h3⟩ := h
  exact ⟨⟨O, S, dk_below h1 hb, h2⟩, h3.below hb⟩
theorem Cf.dn {ls : List Ln} {B0 : Nat} {w : World} {d told synced : Nat} {wq : World} (h : Cf ls B0 w d told synced wq) : Calls Tryz.prog 11 #[.pointer (some ⟨d, 0, none⟩)] wq fun e w' => e = .returned (.bool true) ∧ w' = wq := by
  obtain ⟨⟨O, S, h1, h2⟩, _⟩ := h
  have h3 := down_is wq d O S h1
  rw [h2] at h3
  exact h3
theorem Cg.dn {B0 : Nat} {w : World} {b d B : Nat} {dn : Bool} {Y : Ws × Ds} {wq : World} (h : Cg B0 w b d B dn Y wq) : Calls Tryz.prog 11 #[.pointer (some ⟨d, 0, none⟩)] wq fun e w' => e = .returned (.bool Y.2.down) ∧ w' = wq := by
  obtain ⟨⟨O, h1, _⟩, _⟩ := h
  exact down_is wq d O (Br B dn Y.2) h1.1
theorem gsat_cong (rs : Nat → Rec) {sy sy' : Nat → Bool} (ex : Nat → Nat) (X : Ws × Ds) : ∀ k, (∀ i, i < k → sy i = sy' i) → gsat rs sy ex X k = gsat rs sy' ex X k
  | 0, _ => rfl
  | k + 1, h => by
    have h1 := gsat_cong rs ex X k fun i hi => h i (by omega)
    show gstp rs sy ex k (gsat rs sy ex X k) = gstp rs sy' ex k (gsat rs sy' ex X k)
    unfold gstp gst0
    rw [h1, h k (Nat.lt_succ_self k)]
theorem lst_cong {sy sy' : Nat → Bool} : ∀ k, (∀ i, i < k → sy i = sy' i) → lst sy k = lst sy' k
  | 0, _ => rfl
  | k + 1, h => by
    have h1 := lst_cong k fun i hi => h i (by omega)
    unfold lst
    rw [h1, h k (Nat.lt_succ_self k)]
section
variable {ls : List Ln} {lim evy : Nat} {X : Ws × Ds}
theorem sc_init {rs : Nat → Rec} {W : Ws} {S : Ds} {init : List (List Nat)} {c : List Nat} {las : Nat} (h : Iv W S (init.map (gdat rs)) c las) (ha : S.acts ≤ 500) : init.length ≤ 1000 := by
  have h1 := h.good.cnt
  rw [h.fs] at h1
  simp [files_len] at h1
  omega
theorem sc_put (h0 : Gk 1000000 lim evy 0 X) {k : Nat} (hk : k < 60) (B : Nat) (dn : Bool) (hb : (gsat (scR ls) (scS ls) scX X k).2.acts < B) :
    Rw B dn (Ms (scR ls) k (lst (scS ls) k)) (pt (gsat (scR ls) (scS ls) scX X k).1 (Br B dn (gsat (scR ls) (scS ls) scX X k).2) (gB (scR ls) k)) (pt (gsat (scR ls) (scS ls) scX X k).1 (gsat (scR ls) (scS ls) scX X k).2 (gB (scR ls) k)) := by
  have hg := gsat_ok (sy := scS ls) (ex := scX) (sc_ok ls) scX_le (by omega) h0 k (by omega)
  have hln := (sc_ok ls).len k hk
  have hroom : (gsat (scR ls) (scS ls) scX X k).2.used + (gB (scR ls) k).length ≤ (gsat (scR ls) (scS ls) scX X k).2.cap := by
    rw [hg.cap]
    have := hg.used
    have : (gB (scR ls) k).length ≤ 4409 := hln
    omega
  have hac := hg.acts
  rcases gy_all (sy := scS ls) (ex := scX) (sc_ok ls) scX_le (by omega) h0 k (by omega) with rfl | ⟨init, a, b, las, g1, g2, g3, g4⟩
  · rcases h0.at_ with ⟨_, q⟩ | ⟨q, _⟩
    · exact pt_ms0 B dn q hroom hb
    · omega
  · exact pt_ms B dn g2 (sc_init g2 (by omega)) g1 g3 g4 (lst_le _ _) hroom hb
/-- behind a put: what lasts, and the sync -/
theorem sc_sync (h0 : Gk 1000000 lim evy 0 X) {k : Nat} (hk : k < 60) (B : Nat) (dn : Bool) (hb : (scM ls X k).2.acts < B) :
    Rw B dn (Ms (scR ls) k (lst (scS ls) k)) (syR (scM ls X k).1 (Br B dn (scM ls X k).2)) (syR (scM ls X k).1 (scM ls X k).2) := by
  obtain ⟨sy, hsy⟩ : ∃ sy : Nat → Bool, sy = fun i => if i = k then false else scS ls i := ⟨_, rfl⟩
  have hc : ∀ i, i < k → scS ls i = sy i := fun i hi => by rw [hsy]; show _ = if i = k then false else _; rw [if_neg (by omega)]
  have hsk : sy k = false := by rw [hsy]; exact if_pos rfl
  have hM : gsat (scR ls) sy scX X (k + 1) = scM ls X k := by
    show gstp (scR ls) sy scX k (gsat (scR ls) sy scX X k) = _
    rw [← gsat_cong (scR ls) scX X k hc]
    unfold gstp gst0
    rw [hsk]
    rfl
  have hL : lst sy (k + 1) = lst (scS ls) k := by
    show (if sy k = true then k + 1 else lst sy k) = _
    rw [hsk, lst_cong k hc]
    rfl
  rcases gy_all (sy := sy) (ex := scX) (sc_ok ls) scX_le (by omega) h0 (k + 1) (by omega) with q | ⟨init, a, b, las, g1, g2, g3, g4⟩
  · omega
  · rw [hM] at g2
    rw [hL] at g4
    refine (sy_br B dn g2 hb).mono B dn fun f hf => ?_
    rcases hf with rfl | rfl
    · exact ms_of g2 rfl g1 (Nat.le_refl _) g3 g4
    · have h3 := (sy_iv g2).2.2.1
      have := lst_le (scS ls) k
      exact ms_all h3 rfl g1 (Nat.le_refl _) (by omega)
theorem sc_end (h0 : Gk 1000000 lim evy 0 X) {k : Nat} (hk : k ≤ 60) (hkl : k ≤ ls.length) : (∃ m, Ms (scR ls) m (lst (scS ls) k) (gsat (scR ls) (scS ls) scX X k).2.fs ∧ m ≤ k ∧ m + 1 ≤ ls.length ∧ m + 1 ≤ 60) ∨ ((gsat (scR ls) (scS ls) scX X k).2.fs = [] ∧ lst (scS ls) k = 0) := by
  rcases gy_all (sy := scS ls) (ex := scX) (sc_ok ls) scX_le (by omega) h0 k hk with rfl | ⟨init, a, b, las, g1, g2, g3, g4⟩
  · rcases h0.at_ with ⟨_, q⟩ | ⟨q, _⟩
    · exact .inr ⟨q.fs, rfl⟩
    · omega
  · cases k with
    | zero =>
      right
      rcases h0.at_ with ⟨_, q⟩ | ⟨q, _⟩
      · exact ⟨q.fs, rfl⟩
      · omega
    | succ k => exact .inl ⟨k, ms_of g2 rfl g1 (Nat.le_refl _) g3 g4, by omega, hkl, hk⟩
section
variable {B0 : Nat} {w : World} {b d B : Nat} {dn : Bool} {wq : World} {k : Nat}
/-- a put -/
theorem Cw.put (h : Cw ls B0 w b d B dn X k wq) (h0 : Gk 1000000 lim evy 0 X) (hk : k < 40) (hkl : k < ls.length) :
    Calls Tryz.prog 9 #[.pointer (some ⟨b, 0, none⟩), .agg (rv (scR ls k))] wq fun e w' => (e = .returned (.tuple #[.agg #[.int .u32 0, .int .i64 0, .int .i64 0], .int .i64 75]) ∧ Cf ls B0 w d k (lst (scS ls) k) w') ∨ (∃ p1 p2 p3 : Nat, e = .returned (.tuple #[.agg #[.int .u32 (p1 : Int), .int .i64 (p2 : Int), .int .i64 (p3 : Int)], .int .i64 0]) ∧ Cm ls B0 w b d B dn X k w') := by
  obtain ⟨⟨O, hw, hO⟩, hb, hbw, hB, hs⟩ := h
  have hg := gsat_ok (sy := scS ls) (ex := scX) (sc_ok ls) scX_le (by omega) h0 k (by omega)
  have hst := hg.step (sy := scS ls) (ex := scX) (sc_ok ls) scX_le (by omega) (by omega)
  have hrw := sc_put (ls := ls) h0 (k := k) (by omega) B dn hb
  have hac := hg.acts
  have hun := hg.uns
  obtain ⟨hop, hnum, hnu, hla⟩ : (gsat (scR ls) (scS ls) scX X k).1.op = true ∧ ((gsat (scR ls) (scS ls) scX X k).1.num ≠ 0 → Nam.Nu (gsat (scR ls) (scS ls) scX X k).1.num) ∧ ((gsat (scR ls) (scS ls) scX X k).1.uns ≠ 0 → (gsat (scR ls) (scS ls) scX X k).1.num ≠ 0) ∧ (gsat (scR ls) (scS ls) scX X k).1.laid < 1000000000 := by
    rcases hg.at_ with ⟨_, q⟩ | ⟨_, old, cur, las, q, q1, q2, _⟩
    · exact ⟨q.op, fun e => absurd q.num e, fun e => absurd q.uns e, by rw [q.laid]; omega⟩
    · refine ⟨q.op, fun _ => by rw [q.num]; exact ⟨by omega, by omega⟩, fun _ => by rw [q.num]; omega, by rw [q.laid]; omega⟩
  refine (put_is wq b d O _ _ (scR ls k) hw hop (by show (gsat (scR ls) (scS ls) scX X k).2.acts < _; omega) hnum hnu ((sc_ok ls).wf k (by omega)) ((sc_ok ls).rf k (by omega)) hla (by have := (sc_ok ls).len k (by omega); omega) (by omega)).mono ?_
  rintro e w' ⟨he, O', hw', ht, ho⟩
  have hbw' : Below B0 w w' := hbw.trans (ht.below (fun x q => q.elim (hO x) (fun e => by rw [e]; exact hB)) hs)
  have hO' : ∀ x, O' x → B0 ≤ x := fun x q => (ho x q).elim (hO x) fun q => by omega
  have hs' : B0 ≤ w'.heap.size := Nat.le_trans hs ht.size
  change e = .returned (.tuple #[if (pt (gsat (scR ls) (scS ls) scX X k).1 (Br B dn (gsat (scR ls) (scS ls) scX X k).2) (gB (scR ls) k)).1 = 0 then _ else zpl, .int .i64 ((pt (gsat (scR ls) (scS ls) scX X k).1 (Br B dn (gsat (scR ls) (scS ls) scX X k).2) (gB (scR ls) k)).1 : Int)]) at he
  change WK w' b d O' (pt (gsat (scR ls) (scS ls) scX X k).1 (Br B dn (gsat (scR ls) (scS ls) scX X k).2) (gB (scR ls) k)).2.1 (pt (gsat (scR ls) (scS ls) scX X k).1 (Br B dn (gsat (scR ls) (scS ls) scX X k).2) (gB (scR ls) k)).2.2 at hw'
  have hpa := pt_acts (gsat (scR ls) (scS ls) scX X k).1 (Br B dn (gsat (scR ls) (scS ls) scX X k).2) (gB (scR ls) k)
  rcases hrw with ⟨x, y, z⟩ | ⟨x, y, z, u⟩
  · left
    rw [x, if_neg (by omega)] at he
    refine ⟨he, ⟨O', _, hw'.1, y⟩, O', _, hw'.1, hO', hbw', hs', ?_, by omega, .inl ⟨k, z, Nat.le_refl _, by omega, by omega⟩⟩
    have : (Br B dn (gsat (scR ls) (scS ls) scX X k).2).acts = (gsat (scR ls) (scS ls) scX X k).2.acts := rfl
    omega
  · right
    rw [x, if_pos rfl] at he
    rw [y, z] at hw'
    exact ⟨_, _, _, he, ⟨O', hw', hO'⟩, u, hbw', hB, hs'⟩
/-- no sync -/
theorem Cm.nosync (h : Cm ls B0 w b d B dn X k wq) (hs : scS ls k = false) : Cw ls B0 w b d B dn X (k + 1) wq := by
  have e : gsat (scR ls) (scS ls) scX X (k + 1) = scM ls X k := by
    show gstp (scR ls) (scS ls) scX k (gsat (scR ls) (scS ls) scX X k) = _
    unfold gstp gst0
    rw [hs]
    rfl
  unfold Cw
  rw [e]
  exact h
/-- a sync -/
theorem Cm.sync (h : Cm ls B0 w b d B dn X k wq) (h0 : Gk 1000000 lim evy 0 X) (hk : k < 40) (hkl : k < ls.length) (hsk : scS ls k = true) :
    Calls Tryz.prog 12 #[.pointer (some ⟨b, 0, none⟩)] wq fun e w' => (e = .returned (.int .i64 75) ∧ Ce ls B0 w d (k + 1) (lst (scS ls) k) w') ∨ (e = .returned (.int .i64 0) ∧ Cw ls B0 w b d B dn X (k + 1) w') := by
  obtain ⟨⟨O, hw, hO⟩, hb, hbw, hB, hs⟩ := h
  have hg := gsat_ok (sy := scS ls) (ex := scX) (sc_ok ls) scX_le (by omega) h0 k (by omega)
  have hst := hg.step (sy := scS ls) (ex := scX) (sc_ok ls) scX_le (by omega) (by omega)
  have hrw := sc_sync (ls := ls) h0 (k := k) (by omega) B dn hb
  have hac : (scM ls X k).2.acts ≤ 6 * k + 4 := hst.2.2.2.2.1
  refine (wsync_is wq b d O _ _ hw hst.2.2.2.1 (by show (scM ls X k).2.acts < _; omega) (fun _ => hst.2.2.2.2.2.1)).mono ?_
  rintro e w' ⟨he, O', hw', ht, ho⟩
  have hbw' : Below B0 w w' := hbw.trans (ht.below (fun x q => q.elim (hO x) (fun e => by rw [e]; exact hB)) hs)
  have hO' : ∀ x, O' x → B0 ≤ x := fun x q => (ho x q).elim (hO x) fun q => by omega
  have hs' : B0 ≤ w'.heap.size := Nat.le_trans hs ht.size
  have hpa := sy_acts (scM ls X k).1 (Br B dn (scM ls X k).2)
  rcases hrw with ⟨x, y, z⟩ | ⟨x, y, z, u⟩
  · left
    rw [x] at he
    refine ⟨he, O', _, hw'.1, hO', hbw', hs', ?_, by omega, .inl ⟨k, z, by omega, by omega, by omega⟩⟩
    have : (Br B dn (scM ls X k).2).acts = (scM ls X k).2.acts := rfl
    omega
  · right
    rw [x] at he
    rw [y, z] at hw'
    have e9 : gsat (scR ls) (scS ls) scX X (k + 1) = (syR (scM ls X k).1 (scM ls X k).2).2 := by
      show gstp (scR ls) (scS ls) scX k (gsat (scR ls) (scS ls) scX X k) = _
      unfold gstp gst0
      rw [hsk]
      rfl
    unfold Cw
    rw [e9]
    exact ⟨he, ⟨O', hw', hO'⟩, u, hbw', hB, hs'⟩
theorem Cw.fin (h : Cw ls B0 w b d B dn X k wq) (h0 : Gk 1000000 lim evy 0 X) (hk : k ≤ 40) (hkl : k ≤ ls.length) : Ce ls B0 w d k (lst (scS ls) k) wq := by
  obtain ⟨⟨O, hw, hO⟩, hb, hbw, hB, hs⟩ := h
  have hg := gsat_ok (sy := scS ls) (ex := scX) (sc_ok ls) scX_le (by omega) h0 k (by omega)
  have hac := hg.acts
  exact ⟨O, _, hw.1, hO, hbw, hs, by show (gsat (scR ls) (scS ls) scX X k).2.acts ≤ _; omega, hk, sc_end h0 (by omega) hkl⟩
end
end
set_option pp.maxSteps 1000000 in
set_option maxRecDepth 100000 in
set_option maxHeartbeats 40000000 in
theorem crash_walk (lim evy : Int) (v : Value) (ls : List Ln) (at_ : Int) (dn : Bool) (keep : Int) (w : World) (h1 : -9223372036854775808 ≤ lim) (h2 : lim ≤ 9223372036854775807) (h3 : -9223372036854775808 ≤ evy) (h4 : evy ≤ 9223372036854775807) (h5 : -9223372036854775808 ≤ at_) (h6 : at_ ≤ 9223372036854775807) (hL : IsL w.heap.size w v ls) :
    Calls Tryz.prog 3 #[.int .i64 lim, .int .i64 evy, v, .int .i64 at_, .bool dn, .int .i64 keep] w fun e w' => e = .returned (.bool true) ∧ Below w.heap.size w w' := by
  obtain ⟨a, c, rfl⟩ := hL.shape
  have hmx : Tryz.prog.follows .mixedOrders = true := by kernel_rfl
  have hBm : ls.length ≤ 140737488355328 := hL.2.1
  have HFR := hd (fresh_is lim evy w h1 h2 h3 h4)
  have HPA := hd (fun w => pick9_is at_ 80 w h5 h6 (by omega) (by omega))
  have pa := pk_lt at_ (n := 80) (by omega)
  have HL := hd hL
  clear hL
  obtain ⟨X, hX⟩ : ∃ X, X = (w0S lim evy, ds0 1000000) := ⟨_, rfl⟩
  have hg0 : Gk 1000000 (64 + pk lim 400) (pk evy 6) 0 X := by rw [hX]; exact gk0 1000000 _ _ (by omega)
  have HG0 := hd hg0
  have HOK : Hid (∀ k, k ≤ 60 → Gk 1000000 (64 + pk lim 400) (pk evy 6) k (gsat (scR ls) (scS ls) scX X k)) := gsat_ok (sc_ok ls) scX_le (by omega) hg0
  have HX := hd hX
  clear hX h1 h2 h3 h4 h5 h6 hg0
  generalize pk at_ 80 = q at *
  go_enter Tryz.func3, Tryz.ntmps3
  go_wp2_with fail
  refine Calls.mono HFR.out ?_
  rintro e w1 ⟨d, b, O, rfl, hwk, hb1, hbb, hO⟩
  have HWK := hd hwk
  have HB1 := hd hb1
  have HO := hd hO
  have hs1 := hb1.size
  clear hwk hb1 hO HFR
  go_wp2_with fail
  refine Calls.mono (HPA.out _) ?_
  rintro e w2 ⟨rfl, rfl⟩
  have hbk := breakS_is w2 d O _ (1 + q) dn HWK.out.1 (by omega)
  rw [show (((1 + q : Nat) : Nat) : Int) = 1 + (q : Int) by omega] at hbk
  have HBK := hd hbk
  clear hbk HPA
  go_wp2_with fail
  refine Calls.mono HBK.out ?_
  rintro e w3 ⟨rfl, O3, hd3, ht3, ho3⟩
  have hC0 : Cw ls w.heap.size w b d (1 + q) dn X 0 w3 := by
    refine ⟨⟨O3, ⟨?_, (ht3.block b HWK.out.2.1.lt HWK.out.2.2).trans ?_, fun qq => (ho3 b qq).elim HWK.out.2.2 fun qq => by have := HWK.out.2.1.lt; omega⟩, fun x qq => (ho3 x qq).elim (HO.out x) fun qq => by omega⟩, ?_, HB1.out.trans (ht3.below HO.out hs1), hbb, Nat.le_trans hs1 ht3.size⟩
    · show DK w3 d O3 (Br (1 + q) dn X.2)
      rw [HX.out]; exact hd3
    · show Blk w2 b TW (wcs d X.1)
      rw [HX.out]; exact HWK.out.2.1
    · show X.2.acts < 1 + q
      rw [HX.out]; show (0 : Nat) < 1 + q; omega
  have HC0 := hd hC0
  have hs3 := ht3.size
  clear hC0 hd3 ht3 ho3 HBK HWK HO HB1
  go_wp2_with fail
  rename_i Q9 K9 hK9
  have HK : Hid (∀ (u6 u7 u8 u9 u10 u11 u12 u17 u18 u19 u20 u21 u22 u23 u24 u25 u26 u41 u42 u43 u44 u45 u46 u47 u48 u49 u50 u51 u52 u53 u54 u55 u56 u57 u58 u59 u60 u61 u62 u63 u64 u65 u66 u67 u68 u69 u70 u71 u72 u73 u74 u75 u76 u77 u78 u79 u80 u81 u82 u83 u84 u85 u86 u87 u88 u89 u90 u91 u92 u93 u94 u95 u96 u97 u98 u99 u100 u101 u102 u103 u104 u105 u106 u107 u108 u109 u110 u111 u112 u113 u114 u115 u116 u117 u118 u119 u120 u121 u122 u123 u124 u125 u126 u127 u128 u129 u130 u131 u132 u133 u134 u135 u136 u137 : Value) (told synced : Nat) (wq : World), Ce ls w.heap.size w d told synced wq → K9 { tmps := #[Value.int IntKind.i64 lim, Value.int IntKind.i64 evy, Value.slice a ls.length c, Value.int IntKind.i64 at_, Value.bool dn, Value.int IntKind.i64 keep, u6, u7, u8, u9, u10, u11, u12, Value.pointer (some { block := d, off := 0 }), Value.pointer (some { block := b, off := 0 }), .int .i64 ((told : Nat) : Int), .int .i64 ((synced : Nat) : Int), u17, u18, u19, u20, u21, u22, u23, u24, u25, u26, Value.tuple #[Value.pointer (some { block := d, off := 0 }), Value.pointer (some { block := b, off := 0 })], Value.int IntKind.i64 lim, Value.int IntKind.i64 evy, Value.tuple #[Value.pointer (some { block := d, off := 0 }), Value.pointer (some { block := b, off := 0 })], Value.pointer (some { block := d, off := 0 }), Value.pointer (some { block := b, off := 0 }), Value.pointer (some { block := d, off := 0 }), Value.bool false, Value.pointer (some { block := d, off := 0 }), Value.int IntKind.i64 at_, Value.int IntKind.i64 ((q : Nat) : Int), Value.int IntKind.i64 (1 + ((q : Nat) : Int)), Value.bool dn, Value.int IntKind.i64 0, u41, u42, u43, u44, u45, u46, u47, u48, u49, u50, u51, u52, u53, u54, u55, u56, u57, u58, u59, u60, u61, u62, u63, u64, u65, u66, u67, u68, u69, u70, u71, u72, u73, u74, u75, u76, u77, u78, u79, u80, u81, u82, u83, u84, u85, u86, u87, u88, u89, u90, u91, u92, u93, u94, u95, u96, u97, u98, u99, u100, u101, u102, u103, u104, u105, u106, u107, u108, u109, u110, u111, u112, u113, u114, u115, u116, u117, u118, u119, u120, u121, u122, u123, u124, u125, u126, u127, u128, u129, u130, u131, u132, u133, u134, u135, u136, u137], defers := [] } wq) := by
    intro u6 u7 u8 u9 u10 u11 u12 u17 u18 u19 u20 u21 u22 u23 u24 u25 u26 u41 u42 u43 u44 u45 u46 u47 u48 u49 u50 u51 u52 u53 u54 u55 u56 u57 u58 u59 u60 u61 u62 u63 u64 u65 u66 u67 u68 u69 u70 u71 u72 u73 u74 u75 u76 u77 u78 u79 u80 u81 u82 u83 u84 u85 u86 u87 u88 u89 u90 u91 u92 u93 u94 u95 u96 u97 u98 u99 u100 u101 u102 u103 u104 u105 u106 u107 u108 u109 u110 u111 u112 u113 u114 u115 u116 u117 u118 u119 u120 u121 u122 u123 u124 u125 u126 u127 u128 u129 u130 u131 u132 u133 u134 u135 u136 u137 told synced wq hce
    refine hK9 _ _ ?_
    obtain ⟨O, S, hdk, hO, hbw, hsz, hac, ht40, hms⟩ := hce
    have HO := hd hO
    have HBW := hd hbw
    have HCR := hd (crash_is wq d O S keep hdk)
    have hcm := cut_ce hms hdk.good hac keep
    obtain ⟨p, SS, hp1, hp2, hpl, hp60, hp3, hp4, hp5, hp6⟩ := hcm
    have HP3 := hd hp3
    have HP4 := hd hp4
    have HP6 := hd hp6
    clear hO hbw hms hp3 hp4 hp6 hdk
    go_wp2_with fail
    refine Calls.mono HCR.out ?_
    rintro e wc ⟨rfl, Oc, hdc, htc, hoc⟩
    have hs4 := htc.size
    have HBC : Hid (Below w.heap.size w wc) := HBW.out.trans (htc.below HO.out hsz)
    have hsc : w.heap.size ≤ wc.heap.size := Nat.le_trans hsz hs4
    have HFI := hd (files_is wc d Oc (crash keep S) hdc (by show S.acts ≤ _; omega))
    clear hdc htc hoc HCR HBW HO
    go_wp2_with fail
    refine Calls.mono HFI.out ?_
    rintro e w8 ⟨vf, rfl, hF8, hb8⟩
    obtain ⟨fa, fc, hfs, hfc⟩ := hF8.shape
    subst hfs
    obtain ⟨T, hT⟩ : ∃ T, T = Dk.told (crash keep S) true := ⟨_, rfl⟩
    rw [← hT] at hF8 HP4 HP6 hfc ⊢
    obtain ⟨mm, hmm⟩ : ∃ mm, mm = SS.length := ⟨_, rfl⟩
    have HMM := hd hmm
    rw [HP4.out, ← hmm] at hfc ⊢
    rw [← hmm] at hp5
    have HF8 := hd hF8
    have HB8 : Hid (Below w.heap.size w w8) := HBC.out.trans (hb8.mono hsc)
    have hs8 : w.heap.size ≤ w8.heap.size := Nat.le_trans hsc hb8.size
    have hTl := HP4.out
    have HTL : Hid (T.length = mm) := by rw [hmm]; exact hTl
    clear hF8 hb8 HFI hT hmm hTl HBC
    go_wp2_with fail
    go_loopw [23, 24] (fun nv x wr => ∃ j : Nat, j ≤ mm ∧ x = .int .i64 (j : Int) ∧ nv = .int .i64 (((SS.take j).flatten.length : Nat) : Int) ∧ Below w8.heap.size w8 wr) (fun _ x _ => mm - (intOf x).toNat)
    case atStart => exact ⟨0, by omega, rfl, rfl, Below.refl _ _⟩
    case round =>
      obtain ⟨j, hj, rfl, rfl, hB⟩ := hrel
      obtain ⟨wb, hwb⟩ : ∃ wb, wb = wr := ⟨_, rfl⟩
      subst hwb
      have HBB := hd hB
      have hsb := hB.size
      clear hB
      obtain ⟨N0, hN0⟩ : ∃ N0, N0 = (SS.take j).flatten.length := ⟨_, rfl⟩
      rw [← hN0]
      by_cases hjt : j < mm
      · have hji : ((j : Nat) : Int) < (mm : Int) := by omega
        have HJT : Hid (j + 1 ≤ mm) := hjt
        obtain ⟨s, hsj⟩ : ∃ s, SS[j]? = some s := ⟨_, List.getElem?_eq_getElem (by rw [← HMM.out]; exact hjt)⟩
        obtain ⟨nm, D, hTj, hDl, hDr, hDx⟩ := HP6.out j s hsj
        have hDa : ∀ k9, k9 < s.length → ∃ x : Lc, (recs [1, 2] D)[k9]? = some x ∧ x.2.2 = ofR (scR ls (N0 + k9)) ∧ N0 + k9 < p := by
          intro k9 hk9
          obtain ⟨e1, e2⟩ := seg_at HP3.out hsj hk9
          rw [← hN0] at e1 e2
          obtain ⟨x, h1, h2⟩ := hDx k9 _ e1
          exact ⟨x, h1, h2, e2⟩
        have hF := bfls2_below HF8.out HBB.out
        obtain ⟨g, c9, ua9, uc9, e9, _, hcm9, k0, k1, hJ9⟩ := hF.at hTj
        injection e9 with e9 e10 e11
        subst e9
        have HJ9 := hd hJ9.isB
        have HDA := hd hDa
        have HDR := hd hDr
        have HN0 : Hid (N0 + s.length = (SS.take (j + 1)).flatten.length) := by rw [hN0]; exact (take_next hsj).symm
        have hNb : N0 + s.length ≤ p := by
          have h1 : ((SS.take (j + 1)) ++ (SS.drop (j + 1))).flatten.length = p := by rw [List.take_append_drop, HP3.out, List.length_range]
          rw [List.flatten_append, List.length_append] at h1
          have h8 := HN0.out
          omega
        have hfcm : fc ≤ maxLen := by rw [e11]; exact hcm9
        have hgl : g < wb.heap.size := lt_of_cell k1
        have hrn := records_nil _ D wb hJ9.isB (by omega)
        have HRN := hd hrn
        clear hN0 hDa hDr hDx hsj hTj hF hJ9 e10 e11 hj hrn k0
        go_wp2_with fail
        refine Calls.mono HRN.out ?_
        rintro e wd ⟨vd, rfl, jd, hbd⟩
        obtain ⟨da, dc, hvd, hdc⟩ := jd.shape
        subst hvd
        rw [List.length_map, HDR.out] at hdc ⊢
        rw [List.length_map, HDR.out] at jd
        have HJD := hd jd
        have HBD := hd (HBB.out.trans (hbd.mono (by omega)))
        have hsd := hbd.size
        clear jd hbd HRN HJ9 k1
        go_wp2_with fail
        go_loopw [23, 26] (fun nv x wr => ∃ kk M : Nat, kk ≤ s.length ∧ M = N0 + kk ∧ x = .int .i64 (kk : Int) ∧ nv = .int .i64 (M : Int) ∧ Below wd.heap.size wd wr) (fun _ x _ => s.length - (intOf x).toNat)
        case atStart => exact ⟨0, N0, by omega, by omega, rfl, rfl, Below.refl _ _⟩
        case round =>
          obtain ⟨kk, M, hkk, hM, rfl, rfl, hBI⟩ := hrel
          obtain ⟨wi, hwi⟩ : ∃ wi, wi = wr := ⟨_, rfl⟩
          subst hwi
          have HBI := hd hBI
          have hsi := hBI.size
          have HMK := hd hM
          clear hBI
          by_cases hks : kk < s.length
          · have hki : ((kk : Nat) : Int) < (s.length : Int) := by omega
            have HKS : Hid (kk + 1 ≤ s.length) := hks
            obtain ⟨xx, hx1, hx2, hx3⟩ := HDA.out kk hks
            rw [← hM] at hx2 hx3
            have hrow := HJD.out.keepAll HBI.out
            obtain ⟨gd, cd9, hvd, _, _⟩ := hrow.nn (by intro e; have := congrArg List.length e; rw [List.length_map, HDR.out] at this; change s.length = 0 at this; omega)
            injection hvd with hv1 hv2 hv3
            subst hv1
            clear hv2 hv3
            have hMl : M < ls.length := by omega
            clear hM hkk
            obtain ⟨lb, off, l, rfl, hlk, hgd, hks9, hvs9, d0, d1, d2, d3⟩ := (HL.out.below (HB8.out.trans ((HBD.out.trans (HBI.out.mono (by omega))).mono hs8))).at hMl
            have hbr : scR ls M = lnR l M := by unfold scR; rw [hgd]
            obtain ⟨⟨rl, rk, rkey, rval⟩, hr⟩ : ∃ r, lnR l M = r := ⟨_, rfl⟩
            have HREC := hd (record_is l M · hks9 hvs9 (by omega))
            simp only [hr, show rv (⟨rl, rk, rkey, rval⟩ : Rec) = #[.int .u64 (rl : Int), .int .i64 rk, .string rkey, .string rval] from rfl] at HREC
            rw [hbr, hr] at hx2
            have hr0 : ∀ w', Below wi.heap.size wi w' → w'.rangeAt gd (kk * 16 + 1) [.int .u64 (rl : Int), .int .i64 rk, .string rkey, .string rval] := by
              intro w' hb jj u hu
              have h1 := (hrow.keepAll hb).at kk (lcv xx) (jj + 1) u (by rw [List.getElem?_map, hx1]; rfl) (by unfold lcv; rw [hx2]; match jj, hu with
                | 0, hu => exact hu
                | 1, hu => exact hu
                | 2, hu => exact hu
                | 3, hu => exact hu
                | jj + 4, hu => simp at hu)
              rw [show kk * 16 + 1 + jj = kk * 16 + (jj + 1) by omega]
              exact h1
            have hlbw : lb < wi.heap.size := lt_of_cell d0
            have hl0 : ∀ w', Below wi.heap.size wi w' → w'.rangeAt lb (off + M * 4) [.string l.key, .string l.val, .bool l.gone, .bool l.syn] := by
              intro w' hb jj u hu
              rw [hb.cell (p := ⟨lb, off + M * 4 + jj, none⟩) hlbw]
              match jj, hu with
              | 0, hu => injection hu with hu; rw [← hu]; exact d0
              | 1, hu => injection hu with hu; rw [← hu]; exact d1
              | 2, hu => injection hu with hu; rw [← hu]; exact d2
              | 3, hu => injection hu with hu; rw [← hu]; exact d3
              | jj + 4, hu => simp at hu
            have hne : ∀ ww, (binOp .neq 38 (.agg #[.int .u64 (rl : Int), .int .i64 rk, .string rkey, .string rval]) (.agg #[.int .u64 (rl : Int), .int .i64 rk, .string rkey, .string rval])).run Tryz.prog ww = .ok (.bool false) ww := fun ww => by simp [go_sem, Op.eqFields]
            have hM60 : M < 60 := by omega
            clear hrow hlk hgd hbr hx1 hx2 hx3 hr d0 d1 d2 d3
            go_wp2_with fail
            refine region_skip (fun i9 v9 _ => match i9 with
                | 0 => v9 = Value.int IntKind.i64 ((M : Nat) : Int)
                | 1 => v9 = Value.slice (some { block := lb, off := off }) ls.length c
                | 2 => v9 = .int .i64 ((ls.length : Nat) : Int)
                | 3 => v9 = .bool false
                | 4 => v9 = .bool false
                | 5 => v9 = Value.slice (some { block := gd, off := 0 }) s.length dc
                | 6 => v9 = Value.int IntKind.i64 ((kk : Nat) : Int)
                | 7 => v9 = .pointer (some ⟨gd, kk * 16, none⟩)
                | 8 => v9 = .pointer (some ⟨gd, kk * 16, none⟩)
                | 9 => v9 = .pointer (some ⟨gd, kk * 16 + 1, none⟩)
                | 10 => v9 = .agg #[.int .u64 (rl : Int), .int .i64 rk, .string rkey, .string rval]
                | 11 => v9 = Value.slice (some { block := lb, off := off }) ls.length c
                | 12 => v9 = Value.int IntKind.i64 ((M : Nat) : Int)
                | 13 => v9 = .pointer (some ⟨lb, off + M * 4, none⟩)
                | 14 => v9 = .agg #[.string l.key, .string l.val, .bool l.gone, .bool l.syn]
                | 15 => v9 = Value.int IntKind.i64 ((M : Nat) : Int)
                | 16 => v9 = .agg #[.int .u64 (rl : Int), .int .i64 rk, .string rkey, .string rval]
                | 17 => v9 = .bool false
                | _ => v9 = .bool false) (fun w => Below wi.heap.size wi w) hmx (by kernel_rfl) (by kernel_rfl) ((Below.refl _ _).drew) ?_ ?_ ?_
            · as_aux_lemma =>
                intro i9 v9 w8 w9 _ _ hb hG
                match i9, hG with
                | 0, h => exact h
                | 1, h => exact h
                | 2, h => exact h
                | 3, h => exact h
                | 4, h => exact h
                | 5, h => exact h
                | 6, h => exact h
                | 7, h => exact h
                | 8, h => exact h
                | 9, h => exact h
                | 10, h => exact h
                | 11, h => exact h
                | 12, h => exact h
                | 13, h => exact h
                | 14, h => exact h
                | 15, h => exact h
                | 16, h => exact h
                | 17, h => exact h
                | n + 18, h => exact h
            · as_aux_lemma =>
                intro i9 o9 ho a9 w9 hW hdf hsz hout haf
                have ee2 := getq (show a9.tmps.getD 2 undef = Value.slice (some { block := lb, off := off }) ls.length c from hout 2 (notDst_spec (by kernel_rfl)))
                have ee23 := getq (show a9.tmps.getD 23 undef = Value.int IntKind.i64 ((M : Nat) : Int) from hout 23 (notDst_spec (by kernel_rfl)))
                have ee25 := getq (show a9.tmps.getD 25 undef = Value.slice (some { block := gd, off := 0 }) s.length dc from hout 25 (notDst_spec (by kernel_rfl)))
                have ee26 := getq (show a9.tmps.getD 26 undef = Value.int IntKind.i64 ((kk : Nat) : Int) from hout 26 (notDst_spec (by kernel_rfl)))
                have hsz2 : a9.tmps.size = 138 := hsz
                clear hout hsz hdf
                match i9, ho, haf with
                | 0, ho, haf =>
                  obtain rfl := Option.some.inj ho
                  refine skip_good _ (wanted_none rfl) ?_
                  clear haf ho hsz2
                  intro K hK
                  simp only [List.getElem_toArray, List.getElem_cons_zero] at hK ⊢
                  go_simp
                  exact hK _ _ ⟨Below.refl _ _, hW, rfl⟩
                | 1, ho, haf =>
                  obtain rfl := Option.some.inj ho
                  refine skip_good _ (wanted_none rfl) ?_
                  clear haf ho hsz2
                  intro K hK
                  simp only [List.getElem_toArray, List.getElem_cons_succ, List.getElem_cons_zero] at hK ⊢
                  go_simp
                  exact hK _ _ ⟨Below.refl _ _, hW, rfl⟩
                | 2, ho, haf =>
                  obtain rfl := Option.some.inj ho
                  have f1 := getq (show a9.tmps.getD 109 undef = Value.slice (some { block := lb, off := off }) ls.length c from haf ⟨1, .data⟩ (by simp) rfl)
                  refine skip_good _ (wanted_none rfl) ?_
                  clear haf ho hsz2
                  intro K hK
                  simp only [List.getElem_toArray, List.getElem_cons_succ, List.getElem_cons_zero] at hK ⊢
                  go_simp
                  exact hK _ _ ⟨Below.refl _ _, hW, rfl⟩
                | 3, ho, haf =>
                  obtain rfl := Option.some.inj ho
                  have f0 := getq (show a9.tmps.getD 108 undef = Value.int IntKind.i64 ((M : Nat) : Int) from haf ⟨0, .data⟩ (by simp) rfl)
                  have f2 := getq (show a9.tmps.getD 110 undef = .int .i64 ((ls.length : Nat) : Int) from haf ⟨2, .data⟩ (by simp) rfl)
                  refine skip_good _ (wanted_none rfl) ?_
                  clear haf ho hsz2
                  intro K hK
                  simp only [List.getElem_toArray, List.getElem_cons_succ, List.getElem_cons_zero] at hK ⊢
                  go_simp
                  exact hK _ _ ⟨Below.refl _ _, hW, (by first | rfl | (simp only [Value.bool.injEq, decide_eq_false_iff_not]; omega) | (simp; done) | (simp; omega))⟩
                | 4, ho, haf =>
                  obtain rfl := Option.some.inj ho
                  have f3 := getq (show a9.tmps.getD 111 undef = .bool false from haf ⟨3, .data⟩ (by simp) rfl)
                  refine skip_good _ (wanted_none rfl) ?_
                  clear haf ho hsz2
                  intro K hK
                  simp only [List.getElem_toArray, List.getElem_cons_succ, List.getElem_cons_zero] at hK ⊢
                  go_simp
                  exact hK _ _ ⟨Below.refl _ _, hW, rfl⟩
                | 5, ho, haf =>
                  obtain rfl := Option.some.inj ho
                  have gg : a9.tmps.getD 112 undef = .bool false := haf ⟨4, .guard⟩ (by simp) rfl
                  refine skip_good _ (wanted_some rfl (yielded_of (d := 112) rfl (by omega) gg)) ?_
                  clear haf ho hsz2 gg
                  intro K hK
                  simp only [List.getElem_toArray, List.getElem_cons_succ, List.getElem_cons_zero] at hK ⊢
                  go_simp
                  exact hK _ _ ⟨Below.refl _ _, hW, rfl⟩
                | 6, ho, haf =>
                  obtain rfl := Option.some.inj ho
                  have gg : a9.tmps.getD 112 undef = .bool false := haf ⟨4, .guard⟩ (by simp) rfl
                  refine skip_good _ (wanted_some rfl (yielded_of (d := 112) rfl (by omega) gg)) ?_
                  clear haf ho hsz2 gg
                  intro K hK
                  simp only [List.getElem_toArray, List.getElem_cons_succ, List.getElem_cons_zero] at hK ⊢
                  go_simp
                  exact hK _ _ ⟨Below.refl _ _, hW, rfl⟩
                | 7, ho, haf =>
                  obtain rfl := Option.some.inj ho
                  have gg : a9.tmps.getD 112 undef = .bool false := haf ⟨4, .guard⟩ (by simp) rfl
                  have f5 := getq (show a9.tmps.getD 113 undef = Value.slice (some { block := gd, off := 0 }) s.length dc from haf ⟨5, .data⟩ (by simp) rfl)
                  have f6 := getq (show a9.tmps.getD 114 undef = Value.int IntKind.i64 ((kk : Nat) : Int) from haf ⟨6, .data⟩ (by simp) rfl)
                  refine skip_good _ (wanted_some rfl (yielded_of (d := 112) rfl (by omega) gg)) ?_
                  clear haf ho hsz2 gg
                  intro K hK
                  simp only [List.getElem_toArray, List.getElem_cons_succ, List.getElem_cons_zero] at hK ⊢
                  go_simp
                  exact hK _ _ ⟨Below.refl _ _, hW, rfl⟩
                | 8, ho, haf =>
                  obtain rfl := Option.some.inj ho
                  have gg : a9.tmps.getD 112 undef = .bool false := haf ⟨4, .guard⟩ (by simp) rfl
                  have f7 := getq (show a9.tmps.getD 115 undef = .pointer (some ⟨gd, kk * 16, none⟩) from haf ⟨7, .data⟩ (by simp) rfl)
                  refine skip_good _ (wanted_some rfl (yielded_of (d := 112) rfl (by omega) gg)) ?_
                  clear haf ho hsz2 gg
                  intro K hK
                  simp only [List.getElem_toArray, List.getElem_cons_succ, List.getElem_cons_zero] at hK ⊢
                  go_simp
                  exact hK _ _ ⟨Below.refl _ _, hW, rfl⟩
                | 9, ho, haf =>
                  obtain rfl := Option.some.inj ho
                  have gg : a9.tmps.getD 112 undef = .bool false := haf ⟨4, .guard⟩ (by simp) rfl
                  have f8 := getq (show a9.tmps.getD 116 undef = .pointer (some ⟨gd, kk * 16, none⟩) from haf ⟨8, .data⟩ (by simp) rfl)
                  refine skip_good _ (wanted_some rfl (yielded_of (d := 112) rfl (by omega) gg)) ?_
                  clear haf ho hsz2 gg
                  intro K hK
                  simp only [List.getElem_toArray, List.getElem_cons_succ, List.getElem_cons_zero] at hK ⊢
                  go_simp
                  exact hK _ _ ⟨Below.refl _ _, hW, rfl⟩
                | 10, ho, haf =>
                  obtain rfl := Option.some.inj ho
                  have gg : a9.tmps.getD 112 undef = .bool false := haf ⟨4, .guard⟩ (by simp) rfl
                  have f9 := getq (show a9.tmps.getD 117 undef = .pointer (some ⟨gd, kk * 16 + 1, none⟩) from haf ⟨9, .data⟩ (by simp) rfl)
                  refine skip_good _ (wanted_some rfl (yielded_of (d := 112) rfl (by omega) gg)) ?_
                  have hx0 : a9.eval (Operand.tmp 117) = .pointer (some ⟨gd, kk * 16 + 1, none⟩) := haf ⟨9, .data⟩ (by simp) rfl
                  clear haf ho hsz2 gg
                  intro K hK
                  simp only [List.getElem_toArray, List.getElem_cons_succ, List.getElem_cons_zero] at hK ⊢
                  exact wp_load_mid 38 _ rfl gd (kk * 16 + 1) hx0 [.int .u64 (rl : Int), .int .i64 rk, .string rkey, .string rval] _ (hr0 w9 hW) Tryz.underlying38 rfl (by kernel_rfl) (hK _ _ ⟨Below.refl _ _, hW, rfl⟩)
                | 11, ho, haf =>
                  obtain rfl := Option.some.inj ho
                  have gg : a9.tmps.getD 112 undef = .bool false := haf ⟨4, .guard⟩ (by simp) rfl
                  refine skip_good _ (wanted_some rfl (yielded_of (d := 112) rfl (by omega) gg)) ?_
                  clear haf ho hsz2 gg
                  intro K hK
                  simp only [List.getElem_toArray, List.getElem_cons_succ, List.getElem_cons_zero] at hK ⊢
                  go_simp
                  exact hK _ _ ⟨Below.refl _ _, hW, rfl⟩
                | 12, ho, haf =>
                  obtain rfl := Option.some.inj ho
                  have gg : a9.tmps.getD 112 undef = .bool false := haf ⟨4, .guard⟩ (by simp) rfl
                  refine skip_good _ (wanted_some rfl (yielded_of (d := 112) rfl (by omega) gg)) ?_
                  clear haf ho hsz2 gg
                  intro K hK
                  simp only [List.getElem_toArray, List.getElem_cons_succ, List.getElem_cons_zero] at hK ⊢
                  go_simp
                  exact hK _ _ ⟨Below.refl _ _, hW, rfl⟩
                | 13, ho, haf =>
                  obtain rfl := Option.some.inj ho
                  have gg : a9.tmps.getD 112 undef = .bool false := haf ⟨4, .guard⟩ (by simp) rfl
                  have f11 := getq (show a9.tmps.getD 119 undef = Value.slice (some { block := lb, off := off }) ls.length c from haf ⟨11, .data⟩ (by simp) rfl)
                  have f12 := getq (show a9.tmps.getD 120 undef = Value.int IntKind.i64 ((M : Nat) : Int) from haf ⟨12, .data⟩ (by simp) rfl)
                  refine skip_good _ (wanted_some rfl (yielded_of (d := 112) rfl (by omega) gg)) ?_
                  clear haf ho hsz2 gg
                  intro K hK
                  simp only [List.getElem_toArray, List.getElem_cons_succ, List.getElem_cons_zero] at hK ⊢
                  go_simp
                  exact hK _ _ ⟨Below.refl _ _, hW, rfl⟩
                | 14, ho, haf =>
                  obtain rfl := Option.some.inj ho
                  have gg : a9.tmps.getD 112 undef = .bool false := haf ⟨4, .guard⟩ (by simp) rfl
                  have f13 := getq (show a9.tmps.getD 121 undef = .pointer (some ⟨lb, off + M * 4, none⟩) from haf ⟨13, .data⟩ (by simp) rfl)
                  refine skip_good _ (wanted_some rfl (yielded_of (d := 112) rfl (by omega) gg)) ?_
                  have hx0 : a9.eval (Operand.tmp 121) = .pointer (some ⟨lb, off + M * 4, none⟩) := haf ⟨13, .data⟩ (by simp) rfl
                  clear haf ho hsz2 gg
                  intro K hK
                  simp only [List.getElem_toArray, List.getElem_cons_succ, List.getElem_cons_zero] at hK ⊢
                  exact wp_load_mid 40 _ rfl lb (off + M * 4) hx0 [.string l.key, .string l.val, .bool l.gone, .bool l.syn] _ (hl0 w9 hW) Tryz.underlying40 rfl (by kernel_rfl) (hK _ _ ⟨Below.refl _ _, hW, rfl⟩)
                | 15, ho, haf =>
                  obtain rfl := Option.some.inj ho
                  have gg : a9.tmps.getD 112 undef = .bool false := haf ⟨4, .guard⟩ (by simp) rfl
                  refine skip_good _ (wanted_some rfl (yielded_of (d := 112) rfl (by omega) gg)) ?_
                  clear haf ho hsz2 gg
                  intro K hK
                  simp only [List.getElem_toArray, List.getElem_cons_succ, List.getElem_cons_zero] at hK ⊢
                  go_simp
                  exact hK _ _ ⟨Below.refl _ _, hW, rfl⟩
                | 16, ho, haf =>
                  obtain rfl := Option.some.inj ho
                  have gg : a9.tmps.getD 112 undef = .bool false := haf ⟨4, .guard⟩ (by simp) rfl
                  have f14 := getq (show a9.tmps.getD 122 undef = .agg #[.string l.key, .string l.val, .bool l.gone, .bool l.syn] from haf ⟨14, .data⟩ (by simp) rfl)
                  have f15 := getq (show a9.tmps.getD 123 undef = Value.int IntKind.i64 ((M : Nat) : Int) from haf ⟨15, .data⟩ (by simp) rfl)
                  refine skip_good _ (wanted_some rfl (yielded_of (d := 112) rfl (by omega) gg)) ?_
                  clear haf ho hsz2 gg
                  intro K hK
                  simp only [List.getElem_toArray, List.getElem_cons_succ, List.getElem_cons_zero] at hK ⊢
                  go_simp
                  refine Calls.mono (HREC.out w9) ?_
                  rintro e9 w8 ⟨rfl, hb9⟩
                  exact hK _ _ ⟨hb9, hW.trans (hb9.mono hW.size), rfl⟩
                | 17, ho, haf =>
                  obtain rfl := Option.some.inj ho
                  have gg : a9.tmps.getD 112 undef = .bool false := haf ⟨4, .guard⟩ (by simp) rfl
                  have f10 := getq (show a9.tmps.getD 118 undef = .agg #[.int .u64 (rl : Int), .int .i64 rk, .string rkey, .string rval] from haf ⟨10, .data⟩ (by simp) rfl)
                  have f16 := getq (show a9.tmps.getD 124 undef = .agg #[.int .u64 (rl : Int), .int .i64 rk, .string rkey, .string rval] from haf ⟨16, .data⟩ (by simp) rfl)
                  refine skip_good _ (wanted_some rfl (yielded_of (d := 112) rfl (by omega) gg)) ?_
                  clear haf ho hsz2 gg
                  intro K hK
                  simp only [List.getElem_toArray, List.getElem_cons_succ, List.getElem_cons_zero] at hK ⊢
                  go_simp
                  exact hK _ _ ⟨Below.refl _ _, hW, rfl⟩
                | 18, ho, haf =>
                  obtain rfl := Option.some.inj ho
                  have f4 := getq (show a9.tmps.getD 112 undef = .bool false from haf ⟨4, .data⟩ (by simp) rfl)
                  have f17 := getq (show a9.tmps.getD 125 undef = .bool false from haf ⟨17, .data⟩ (by simp) rfl)
                  refine skip_good _ (wanted_none rfl) ?_
                  clear haf ho hsz2
                  intro K hK
                  simp only [List.getElem_toArray, List.getElem_cons_succ, List.getElem_cons_zero] at hK ⊢
                  go_simp
                  exact hK _ _ ⟨Below.refl _ _, hW, rfl⟩
                | n + 19, ho, haf => simp at ho
            · as_aux_lemma =>
                intro aa w9 hW hdf hsz hout hall
                have hat : aa.tmps = #[Value.int IntKind.i64 lim, Value.int IntKind.i64 evy, Value.slice (some { block := lb, off := off }) ls.length c, Value.int IntKind.i64 at_, Value.bool dn, Value.int IntKind.i64 keep, u6, u7, u8, u9, u10, u11, u12, Value.pointer (some { block := d, off := 0 }), Value.pointer (some { block := b, off := 0 }), Value.int IntKind.i64 ((told : Nat) : Int), Value.int IntKind.i64 ((synced : Nat) : Int), u17, u18, u19, u20, u21, Value.slice (some { block := g, off := 0 }) mm fc, Value.int IntKind.i64 ((M : Nat) : Int), Value.int IntKind.i64 ((j : Nat) : Int), Value.slice (some { block := gd, off := 0 }) s.length dc, Value.int IntKind.i64 ((kk : Nat) : Int), Value.tuple #[Value.pointer (some { block := d, off := 0 }), Value.pointer (some { block := b, off := 0 })], Value.int IntKind.i64 lim, Value.int IntKind.i64 evy, Value.tuple #[Value.pointer (some { block := d, off := 0 }), Value.pointer (some { block := b, off := 0 })], Value.pointer (some { block := d, off := 0 }), Value.pointer (some { block := b, off := 0 }), Value.pointer (some { block := d, off := 0 }), Value.bool false, Value.pointer (some { block := d, off := 0 }), Value.int IntKind.i64 at_, Value.int IntKind.i64 ((q : Nat) : Int), Value.int IntKind.i64 (1 + ((q : Nat) : Int)), Value.bool dn, Value.int IntKind.i64 0, u41, u42, u43, u44, u45, u46, u47, u48, u49, u50, u51, u52, u53, u54, u55, u56, u57, u58, u59, u60, u61, u62, u63, u64, u65, u66, u67, u68, u69, u70, u71, u72, u73, u74, u75, u76, u77, u78, u79, u80, u81, u82, u83, u84, Value.pointer (some { block := d, off := 0 }), Value.int IntKind.i64 keep, Value.int IntKind.i64 0, Value.pointer (some { block := d, off := 0 }), Value.slice (some { block := g, off := 0 }) mm fc, Value.int IntKind.i64 ((j : Nat) : Int), Value.slice (some { block := g, off := 0 }) mm fc, Value.int IntKind.i64 ((mm : Nat) : Int), Value.bool true, u94, u95, Value.slice (some { block := g, off := 0 }) mm fc, Value.int IntKind.i64 ((j : Nat) : Int), Value.pointer (some { block := g, off := j * 2 }), Value.pointer (some { block := g, off := j * 2 + 1 }), Value.slice ua9 D.length uc9, Value.slice (some { block := gd, off := 0 }) s.length dc, Value.int IntKind.i64 ((kk : Nat) : Int), Value.slice (some { block := gd, off := 0 }) s.length dc, Value.int IntKind.i64 ((s.length : Nat) : Int), Value.bool true, u106, u107, Value.int IntKind.i64 ((M : Nat) : Int), Value.slice (some { block := lb, off := off }) ls.length c, .int .i64 ((ls.length : Nat) : Int), .bool false, .bool false, Value.slice (some { block := gd, off := 0 }) s.length dc, Value.int IntKind.i64 ((kk : Nat) : Int), .pointer (some ⟨gd, kk * 16, none⟩), .pointer (some ⟨gd, kk * 16, none⟩), .pointer (some ⟨gd, kk * 16 + 1, none⟩), .agg #[.int .u64 (rl : Int), .int .i64 rk, .string rkey, .string rval], Value.slice (some { block := lb, off := off }) ls.length c, Value.int IntKind.i64 ((M : Nat) : Int), .pointer (some ⟨lb, off + M * 4, none⟩), .agg #[.string l.key, .string l.val, .bool l.gone, .bool l.syn], Value.int IntKind.i64 ((M : Nat) : Int), .agg #[.int .u64 (rl : Int), .int .i64 rk, .string rkey, .string rval], .bool false, .bool false, u127, u128, u129, u130, u131, u132, u133, u134, u135, u136, u137] := by
                  refine (tmps_of (lo := 108) (vs := [Value.int IntKind.i64 ((M : Nat) : Int), Value.slice (some { block := lb, off := off }) ls.length c, .int .i64 ((ls.length : Nat) : Int), .bool false, .bool false, Value.slice (some { block := gd, off := 0 }) s.length dc, Value.int IntKind.i64 ((kk : Nat) : Int), .pointer (some ⟨gd, kk * 16, none⟩), .pointer (some ⟨gd, kk * 16, none⟩), .pointer (some ⟨gd, kk * 16 + 1, none⟩), .agg #[.int .u64 (rl : Int), .int .i64 rk, .string rkey, .string rval], Value.slice (some { block := lb, off := off }) ls.length c, Value.int IntKind.i64 ((M : Nat) : Int), .pointer (some ⟨lb, off + M * 4, none⟩), .agg #[.string l.key, .string l.val, .bool l.gone, .bool l.syn], Value.int IntKind.i64 ((M : Nat) : Int), .agg #[.int .u64 (rl : Int), .int .i64 rk, .string rkey, .string rval], .bool false, .bool false]) hsz (by kernel_rfl) (Nat.le_of_ble_eq_true (by kernel_rfl)) hout (fun i hi => ?_)).trans ?_
                  · match i, hi with
                    | 0, _ => exact hall 0 (by decide)
                    | 1, _ => exact hall 1 (by decide)
                    | 2, _ => exact hall 2 (by decide)
                    | 3, _ => exact hall 3 (by decide)
                    | 4, _ => exact hall 4 (by decide)
                    | 5, _ => exact hall 5 (by decide)
                    | 6, _ => exact hall 6 (by decide)
                    | 7, _ => exact hall 7 (by decide)
                    | 8, _ => exact hall 8 (by decide)
                    | 9, _ => exact hall 9 (by decide)
                    | 10, _ => exact hall 10 (by decide)
                    | 11, _ => exact hall 11 (by decide)
                    | 12, _ => exact hall 12 (by decide)
                    | 13, _ => exact hall 13 (by decide)
                    | 14, _ => exact hall 14 (by decide)
                    | 15, _ => exact hall 15 (by decide)
                    | 16, _ => exact hall 16 (by decide)
                    | 17, _ => exact hall 17 (by decide)
                    | 18, _ => exact hall 18 (by decide)
                    | n + 19, h => exact absurd h (by simp)
                  · rfl
                obtain ⟨tt, dd⟩ := aa
                simp only at hat hdf
                subst hat hdf
                clear hsz hout hall
                have HWF := hd (HBI.out.trans (hW.mono hsi))
                clear hW
                go_wp2_with fail
                go_roundw
                case rel => exact ⟨kk + 1, M + 1, HKS.out, by have := HMK.out; omega, by go_num, by go_num, HWF.out⟩
                case measure => have := HKS.out; simp [intOf]; omega
          · have hki : ¬ ((kk : Nat) : Int) < (s.length : Int) := by omega
            have e9 : M = (SS.take (j + 1)).flatten.length := by rw [← HN0.out, hM]; omega
            clear hkk hks hM
            go_wp2_with fail
            exact ⟨⟨j + 1, HJT.out, by go_num, by rw [e9], HBD.out.trans (HBI.out.mono (by omega))⟩, by have := HJT.out; simp [intOf]; omega⟩
      · have hji : ¬ ((j : Nat) : Int) < (mm : Int) := by omega
        obtain rfl : j = mm := by omega
        have hall : N0 = p := by rw [hN0, HMM.out, take_all HP3.out]
        subst hall
        have hz1 : decide (synced ≤ N0) = true := decide_eq_true (by omega)
        have hz2 : ((synced : Nat) : Int) ≤ (N0 : Int) := by omega
        have hz3 : ((N0 : Nat) : Int) ≤ (told : Int) + 1 := by omega
        clear hj hjt hN0
        go_wp2_with fail
        first
          | (go_ret; exact ⟨rfl, HB8.out.trans (HBB.out.mono hs8)⟩)
          | (go_quiet (fail); go_wp2_with fail; go_ret; exact ⟨rfl, below_drewN (HB8.out.trans (HBB.out.mono hs8)) _⟩)
  have HK9 := hd hK9
  clear hK9
  go_loopw [15, 16, 17] (fun x y z wq => ∃ k : Nat, k ≤ ls.length ∧ k ≤ 40 ∧ x = .int .i64 (k : Int) ∧ y = .int .i64 ((lst (scS ls) k : Nat) : Int) ∧ z = .int .i64 (k : Int) ∧ Cw ls w.heap.size w b d (1 + q) dn X k wq) (fun _ _ z _ => ls.length - (intOf z).toNat)
  case atStart => exact ⟨0, by omega, by omega, rfl, rfl, rfl, HC0.out⟩
  case round =>
    obtain ⟨k, hk, hk4, rfl, rfl, rfl, hcw⟩ := hrel
    obtain ⟨wq, hwq⟩ : ∃ wq, wq = wr := ⟨_, rfl⟩
    subst hwq
    have HCW := hd hcw
    have HLS := hd (lst_le (scS ls) k)
    clear hcw
    obtain ⟨sd, hsd⟩ : ∃ sd, sd = lst (scS ls) k := ⟨_, rfl⟩
    rw [← hsd] at HLS ⊢
    have HSD := hd hsd
    clear hsd
    by_cases hlt : k < ls.length
    · by_cases h40 : k < 40
      · have hki : ((k : Nat) : Int) < (ls.length : Int) := by omega
        have hk2 : ((k : Nat) : Int) < 40 := by omega
        have HLT : Hid (k + 1 ≤ ls.length) := hlt
        have HH4 : Hid (k + 1 ≤ 40) := h40
        obtain ⟨lb, off, l, rfl, hlk, hgd, hks9, hvs9, d0, d1, d2, d3⟩ := (HL.out.below HCW.out.2.2.1).at hlt
        have HGD := hd hgd
        have hsk : scS ls k = l.syn := by unfold scS; rw [hgd]
        have HSK := hd hsk
        have HREC := hd (record_is l k wq hks9 hvs9 (by omega))
        have hsz0 := HCW.out.2.2.2.2
        have HD3 : Hid (∀ w', Below w.heap.size w w' → w'.cell? ⟨lb, off + k * 4 + 3, none⟩ = some (.bool l.syn)) := by
          intro w' hb'
          obtain ⟨lb', off', l', e1, _, e2, _, _, _, _, _, q3⟩ := (HL.out.below hb').at hlt
          injection e1 with e1
          injection e1 with e1 e4
          subst e1 e4
          rw [← HGD.out, e2]; exact q3
        clear hlk hgd hks9 hvs9 hsk
        go_wp2_with fail
        refine Calls.mono HREC.out ?_
        rintro e w4 ⟨rfl, hb4⟩
        have hpu := Cw.put (Cg.below HCW.out hb4) HG0.out h40 hlt
        rw [show scR ls k = lnR l k by unfold scR; rw [HGD.out]] at hpu
        have HPU := hd hpu
        clear hpu hb4 HREC d0 d1 d2 d3
        go_wp2_with fail
        refine Calls.mono HPU.out ?_
        rintro e w5 (⟨rfl, hcf⟩ | ⟨p1, p2, p3, rfl, hcm⟩)
        · have hz : Blk (w5.alloc (.cells #[.int .u32 0, .int .i64 0, .int .i64 0] TPl)) w5.heap.size TPl [.int .u32 0, .int .i64 0, .int .i64 0] := Blk.new w5 TPl [.int .u32 0, .int .i64 0, .int .i64 0]
          obtain ⟨w6, hw6⟩ : ∃ w6, w6 = w5.alloc (.cells #[.int .u32 0, .int .i64 0, .int .i64 0] TPl) := ⟨_, rfl⟩
          rw [← hw6] at hz
          have hb6 : Below w5.heap.size w5 w6 := by rw [hw6]; exact (Below.refl _ _).alloc (Nat.le_refl _) _
          have HCF := hd (hcf.below hb6)
          obtain ⟨z, hzz⟩ : ∃ z, z = w5.heap.size := ⟨_, rfl⟩
          rw [← hzz] at hz
          have z0 := hz.cell 0 _ rfl
          have z1 := hz.cell 1 _ rfl
          have z2 := hz.cell 2 _ rfl
          clear hcf hb6 hz
          go_wp2_with fail
          rw [← hw6, ← hzz]
          clear hw6 hzz
          refine Calls.mono HCF.out.dn ?_
          rintro e w7 ⟨rfl, rfl⟩
          go_wp2_with fail
          have hce : Ce ls w.heap.size w d k sd w7 := by rw [HSD.out]; exact HCF.out.2
          exact HK.out _ _ _ _ _ _ _ _ _ _ _ _ _ _ _ _ _ _ _ _ _ _ _ _ _ _ _ _ _ _ _ _ _ _ _ _ _ _ _ _ _ _ _ _ _ _ _ _ _ _ _ _ _ _ _ _ _ _ _ _ _ _ _ _ _ _ _ _ _ _ _ _ _ _ _ _ _ _ _ _ _ _ _ _ _ _ _ _ _ _ _ _ _ _ _ _ _ _ _ _ _ _ _ _ _ _ _ _ _ _ _ _ _ _ k sd w7 hce
        · have hb6 : Below w5.heap.size w5 (w5.alloc (.cells #[.int .u32 (p1 : Int), .int .i64 (p2 : Int), .int .i64 (p3 : Int)] TPl)) := (Below.refl _ _).alloc (Nat.le_refl _) _
          have HCM : Hid (Cm ls w.heap.size w b d (1 + q) dn X k (w5.alloc (.cells #[.int .u32 (p1 : Int), .int .i64 (p2 : Int), .int .i64 (p3 : Int)] TPl))) := Cg.below hcm hb6
          clear hcm hb6
          go_wp2_with fail
          refine Calls.mono (Cg.dn HCM.out) ?_
          rintro e w7 ⟨rfl, hw7⟩
          rw [← hw7] at HCM
          clear hw7
          have hd3 := HD3.out w7 HCM.out.2.2.1
          generalize (scM ls X k).2.down = xd
          cases hsy : l.syn
          · have hsk : scS ls k = false := by rw [HSK.out, hsy]
            rw [hsy] at hd3
            have hcw : Hid (Cw ls w.heap.size w b d (1 + q) dn X (k + 1) w7) := Cm.nosync HCM.out hsk
            have HL1 : Hid (sd = lst (scS ls) (k + 1)) := by
              show _ = if scS ls k = true then k + 1 else lst (scS ls) k
              rw [hsk, HSD.out]; rfl
            clear hsk hsy
            go_wp2_with fail
            exact ⟨⟨k + 1, HLT.out, HH4.out, by go_num, by rw [← HL1.out], by go_num, hcw.out⟩, by have := HLT.out; simp [intOf]; omega⟩
          · have hsk : scS ls k = true := by rw [HSK.out, hsy]
            rw [hsy] at hd3
            have HSY := hd (Cm.sync HCM.out HG0.out h40 hlt hsk)
            have HL1 : Hid (k + 1 = lst (scS ls) (k + 1)) := by
              show _ = if scS ls k = true then k + 1 else lst (scS ls) k
              rw [hsk]; rfl
            clear hsk hsy
            go_wp2_with fail
            refine Calls.mono HSY.out ?_
            rintro e w8 (⟨rfl, hce⟩ | ⟨rfl, hcw⟩)
            · have HCE := hd hce
              clear hce
              go_wp2_with fail
              have hce : Ce ls w.heap.size w d (k + 1) sd w8 := by rw [HSD.out]; exact HCE.out
              exact HK.out _ _ _ _ _ _ _ _ _ _ _ _ _ _ _ _ _ _ _ _ _ _ _ _ _ _ _ _ _ _ _ _ _ _ _ _ _ _ _ _ _ _ _ _ _ _ _ _ _ _ _ _ _ _ _ _ _ _ _ _ _ _ _ _ _ _ _ _ _ _ _ _ _ _ _ _ _ _ _ _ _ _ _ _ _ _ _ _ _ _ _ _ _ _ _ _ _ _ _ _ _ _ _ _ _ _ _ _ _ _ _ _ _ _ (k + 1) sd w8 hce
            · have HCW2 := hd hcw
              clear hcw
              go_wp2_with fail
              exact ⟨⟨k + 1, HLT.out, HH4.out, by go_num, by rw [← HL1.out]; go_num, by go_num, HCW2.out⟩, by have := HLT.out; simp [intOf]; omega⟩
      · have hki : ((k : Nat) : Int) < (ls.length : Int) := by omega
        obtain rfl : k = 40 := by omega
        have hce : Ce ls w.heap.size w d 40 sd wq := by rw [HSD.out]; exact HCW.out.fin HG0.out (by omega) hk
        have HCE := hd hce
        clear hce
        go_wp2_with fail
        exact HK.out _ _ _ _ _ _ _ _ _ _ _ _ _ _ _ _ _ _ _ _ _ _ _ _ _ _ _ _ _ _ _ _ _ _ _ _ _ _ _ _ _ _ _ _ _ _ _ _ _ _ _ _ _ _ _ _ _ _ _ _ _ _ _ _ _ _ _ _ _ _ _ _ _ _ _ _ _ _ _ _ _ _ _ _ _ _ _ _ _ _ _ _ _ _ _ _ _ _ _ _ _ _ _ _ _ _ _ _ _ _ _ _ _ _ 40 sd wq HCE.out
    · have hki : ¬ ((k : Nat) : Int) < (ls.length : Int) := by omega
      obtain rfl : k = ls.length := by omega
      have hce : Ce ls w.heap.size w d ls.length sd wq := by rw [HSD.out]; exact HCW.out.fin HG0.out (by omega) (Nat.le_refl _)
      have HCE := hd hce
      clear hce
      go_wp2_with fail
      exact HK.out _ _ _ _ _ _ _ _ _ _ _ _ _ _ _ _ _ _ _ _ _ _ _ _ _ _ _ _ _ _ _ _ _ _ _ _ _ _ _ _ _ _ _ _ _ _ _ _ _ _ _ _ _ _ _ _ _ _ _ _ _ _ _ _ _ _ _ _ _ _ _ _ _ _ _ _ _ _ _ _ _ _ _ _ _ _ _ _ _ _ _ _ _ _ _ _ _ _ _ _ _ _ _ _ _ _ _ _ _ _ _ _ _ _ ls.length sd wq HCE.out
end Sg
end Go.Proofs.YtolddolfpnkndaaGreat
