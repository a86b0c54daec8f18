/-
  THE WALK OF THE LAW'S written: all lines are put, their places gathered.
-/
import Derived.Test.YtnakaomgceoobaaGreatSg6
import Derived.Test.YtnakaomgceoobaaGreatJr0
namespace Go.Proofs.YtnakaomgceoobaaGreat
open Go.RowKit Go.Maps Go.Sort
namespace Sg
open Vt Dk
attribute [local go_sem ↓] append_hid
abbrev TLn : TypeId := 50
/-- lines that came in -/
def IsL (B : Nat) (w : World) (v : Value) (ls : List Ln) : Prop :=
  (∀ l ∈ ls, l.key.size ≤ 140737488355328 ∧ l.val.size ≤ maxLen) ∧ ls.length ≤ 140737488355328 ∧ ((ls = [] ∧ ∃ a c, v = .slice a 0 c) ∨ ∃ b off c, v = .slice (some ⟨b, off, none⟩) ls.length c ∧ b < B ∧ ∀ k l, ls[k]? = some l → ∀ j u, (lnv l)[j]? = some u → w.cell? ⟨b, off + k * 4 + j, none⟩ = some u)
theorem IsL.shape {B : Nat} {w : World} {v : Value} {ls : List Ln} (h : IsL B w v ls) : ∃ a c, v = .slice a ls.length c := by
  obtain ⟨_, _, ⟨rfl, a, c, rfl⟩ | ⟨b, off, c, rfl, _⟩⟩ := h
  · exact ⟨a, c, rfl⟩
  · exact ⟨_, c, rfl⟩
theorem IsL.below {B : Nat} {w w' : World} {v : Value} {ls : List Ln} (h : IsL B w v ls) (hb : Below B w w') : IsL B w' v ls := by
  obtain ⟨h1, h2, ⟨rfl, a, c, rfl⟩ | ⟨b, off, c, rfl, h3, h4⟩⟩ := h
  · exact ⟨h1, h2, .inl ⟨rfl, a, c, rfl⟩⟩
  · exact ⟨h1, h2, .inr ⟨b, off, c, rfl, h3, fun k l hk j u hu => (hb.cell h3).trans (h4 k l hk j u hu)⟩⟩
theorem IsL.at {B : Nat} {w : World} {a : Option Addr} {n c k : Nat} {ls : List Ln} (h : IsL B w (.slice a n c) ls) (hk : k < ls.length) : ∃ b off l, a = some ⟨b, off, none⟩ ∧ ls[k]? = some l ∧ ls.getD k zl = l ∧ l.key.size ≤ 140737488355328 ∧ l.val.size ≤ maxLen ∧ w.cell? ⟨b, off + k * 4, none⟩ = some (.string l.key) ∧ w.cell? ⟨b, off + k * 4 + 1, none⟩ = some (.string l.val) ∧ w.cell? ⟨b, off + k * 4 + 2, none⟩ = some (.bool l.gone) ∧ w.cell? ⟨b, off + k * 4 + 3, none⟩ = some (.bool l.syn) := by
  obtain ⟨h1, h2, ⟨rfl, _, _, e⟩ | ⟨b, off, c', e, h3, h4⟩⟩ := h
  · simp at hk
  · injection e with e1 e2 e3
    have hg : ls[k]? = some ls[k] := List.getElem?_eq_getElem hk
    have hm := h1 _ (List.getElem_mem hk)
    exact ⟨b, off, ls[k], e1, hg, by rw [List.getD_eq_getElem?_getD, hg]; rfl, hm.1, hm.2, h4 k _ hg 0 _ rfl, h4 k _ hg 1 _ rfl, h4 k _ hg 2 _ rfl, h4 k _ hg 3 _ rfl⟩
theorem jr_same {E : TypeId} {sz : Nat} {w w' : World} {base : Nat} {v : Value} {l : List (List Value)} (h : JR E sz w base v l) (hb : ∀ g, v.ownBlock = some g → w'.heap[g]? = w.heap[g]?) : JR E sz w' base v l := by
  obtain ⟨h0, h1, ⟨h2, h3⟩ | ⟨g, cap, cur, h2, h3, h4, h5⟩⟩ := h
  · exact ⟨h0, h1, .inl ⟨h2, h3⟩⟩
  · exact ⟨h0, h1, .inr ⟨g, cap, cur, h2, h3, (hb g (by rw [h2]; rfl)).trans h4, h5⟩⟩
theorem WK.grown {w w' : World} {b d : Nat} {O : Nat → Prop} {W : Ws} {S : Ds} (h : WK w b d O W S) {row : Option Nat} (hg : w.grownBy w' row) (hn : ∀ r, row = some r → ¬ O r ∧ r ≠ b) : WK w' b d O W S :=
  ⟨h.1.keep (fun x q => hg.block x (h.1.olt x q) (fun e => (hn x e.symm).1 q)) hg.size, (hg.block b h.lt (fun e => (hn b e.symm).2 rfl)).trans h.2.1, h.2.2⟩
def plC (p : Nat × Nat × Nat) : List Value := [.int .u32 (p.1 : Int), .int .i64 (p.2.1 : Int), .int .i64 (p.2.2 : Int)]
theorem info_pl : (Tryz.prog.info? TPl).map (fun i => (i.zero, i.size, i.bytes)) = some (some (.agg #[.int .u32 0, .int .i64 0, .int .i64 0]), 3, 24) := by kernel_rfl
/-- what stands in memory behind k lines -/
structure Wq (B : Nat) (w : World) (b d : Nat) (ls : List Ln) (X : Ws × Ds) (k : Nat) (v : Value) (wq : World) : Prop where
  ex : ∃ O, WK wq b d O (sat ls X k).1 (sat ls X k).2 ∧ (∀ x, O x → B ≤ x) ∧ ∀ g, v.ownBlock = some g → ¬ O g ∧ g ≠ b
  row : JR TPl 3 wq B v ((pls ls X k).map plC)
  bel : Below B w wq
  le : B ≤ b
theorem Wq.bels {B : Nat} {w : World} {b d : Nat} {ls : List Ln} {X : Ws × Ds} {k : Nat} {v : Value} {wq w' : World} (h : Wq B w b d ls X k v wq) (hb : Below wq.heap.size wq w') (hB : B ≤ wq.heap.size) : Wq B w b d ls X k v w' := by
  obtain ⟨O, h1, h2, h3⟩ := h.ex
  exact ⟨⟨O, h1.below hb, h2, h3⟩, h.row.keepAll hb, h.bel.trans (hb.mono hB), h.le⟩
/-- what a Put, and a Sync if it is asked for, leave of it -/
theorem Wq.put {B : Nat} {w : World} {b d : Nat} {ls : List Ln} {X : Ws × Ds} {k : Nat} {v : Value} {wq : World} (h : Wq B w b d ls X k v wq) {lim evy : Nat} (hok : Ok lim evy k (sat ls X k)) (hk : k < 60) (l : Ln) (hB : B ≤ wq.heap.size) :
    Calls Tryz.prog 15 #[.pointer (some ⟨b, 0, none⟩), .agg (rv (lnR l k))] wq fun e w' => e = .returned (.tuple #[.agg #[.int .u32 ((plc l k (sat ls X k)).1 : Int), .int .i64 ((plc l k (sat ls X k)).2.1 : Int), .int .i64 ((plc l k (sat ls X k)).2.2 : Int)], .int .i64 0]) ∧ (∃ O, WK w' b d O (pt (sat ls X k).1 (sat ls X k).2 (fB l k)).2.1 (pt (sat ls X k).1 (sat ls X k).2 (fB l k)).2.2 ∧ (∀ x, O x → B ≤ x) ∧ ∀ g, v.ownBlock = some g → ¬ O g ∧ g ≠ b) ∧ JR TPl 3 w' B v ((pls ls X k).map plC) ∧ Below B w w' ∧ B ≤ w'.heap.size := by
  obtain ⟨O, h1, h2, h3⟩ := h.ex
  obtain ⟨s1, s2, s3, s4, s5, s6, _⟩ := hok.step hk l
  have hfl := lnR_len l k (by omega)
  have hop : (sat ls X k).1.op = true := by rcases hok.at_ with ⟨_, q⟩ | ⟨_, _, _, _, q, _⟩ <;> exact q.op
  have hnum : (sat ls X k).1.num ≠ 0 → Nam.Nu (sat ls X k).1.num := by
    rcases hok.at_ with ⟨_, q⟩ | ⟨_, o, c, s, q, q2, _, _⟩
    · intro e; exact absurd q.num e
    · intro _; rw [q.num]; exact ⟨by omega, by omega⟩
  have hun : (sat ls X k).1.uns ≠ 0 → (sat ls X k).1.num ≠ 0 := by
    rcases hok.at_ with ⟨_, q⟩ | ⟨_, o, c, s, q, q2, _, _⟩
    · intro e; exact absurd q.uns e
    · intro _; rw [q.num]; omega
  have hla : (sat ls X k).1.laid < 1000000000 := by
    rcases hok.at_ with ⟨_, q⟩ | ⟨_, o, c, s, q, q2, q3, _⟩
    · rw [q.laid]; omega
    · rw [q.laid]; omega
  refine (put_is wq b d O _ _ (lnR l k) h1 hop (by have := hok.acts; omega) hnum hun (lnR_wf l k (by omega)) (lnR_rf l k) hla (by omega) (by have := hok.uns; omega)).mono ?_
  rintro e w' ⟨rfl, O', k1, k2, k3⟩
  have hs1 : (pt (sat ls X k).1 (sat ls X k).2 (en (ofR (lnR l k)))).1 = 0 := s1
  refine ⟨?_, ⟨O', k1, fun x q => (k3 x q).elim (h2 x) (fun q => Nat.le_trans hB q), fun g hg => ⟨fun q => (k3 g q).elim (h3 g hg).1 (fun q => by have := h.row.blk_lt g hg; omega), (h3 g hg).2⟩⟩, ?_, ?_, Nat.le_trans hB k2.size⟩
  · rw [if_pos hs1, hs1]; rfl
  · exact jr_same h.row fun g hg => k2.block g (h.row.blk_lt g hg) (fun q => q.elim (h3 g hg).1 (h3 g hg).2)
  · exact h.bel.trans (k2.below (fun x q => q.elim (h2 x) (fun e => by rw [e]; exact h.le)) hB)
theorem ex_app {B : Nat} {w3 w4 w5 : World} {b d : Nat} {W : Ws} {S : Ds} {v : Value} {g' n cap : Nat} (hB4 : Below w3.heap.size w3 w4) (hex : ∃ O, WK w3 b d O W S ∧ (∀ x, O x → B ≤ x) ∧ ∀ g, v.ownBlock = some g → ¬ O g ∧ g ≠ b) (hg : w4.grownBy w5 v.ownBlock) (ho : v.ownBlock = some g' ∨ g' = w4.heap.size) :
    ∃ O, WK w5 b d O W S ∧ (∀ x, O x → B ≤ x) ∧ ∀ g, (Value.slice (some ⟨g', 0, none⟩) n cap).ownBlock = some g → ¬ O g ∧ g ≠ b := by
  obtain ⟨O, h1, h2, h3⟩ := hex
  have h4 := h1.below hB4
  refine ⟨O, h4.grown hg h3, h2, fun g e => ?_⟩
  have e' : g' = g := by injection e
  subst e'
  rcases ho with ho | ho
  · exact h3 _ ho
  · rw [ho]
    exact ⟨fun q => by have := h4.1.olt _ q; omega, by have := h4.lt; omega⟩
theorem app_all {B : Nat} {w w3 w5 : World} {b d : Nat} {W : Ws} {S : Ds} {v : Value} {g' n cap : Nat} {l : List (List Value)} {A A' : Obj} (hex : ∃ O, WK w3 b d O W S ∧ (∀ x, O x → B ≤ x) ∧ ∀ g, v.ownBlock = some g → ¬ O g ∧ g ≠ b) (hrow : JR TPl 3 w3 B v l) (hbel : Below B w w3) (hB : B ≤ w3.heap.size) (hg : ((w3.alloc A).alloc A').grownBy w5 v.ownBlock) (ho : v.ownBlock = some g' ∨ g' = ((w3.alloc A).alloc A').heap.size) :
    (∃ O, WK w5 b d O W S ∧ (∀ x, O x → B ≤ x) ∧ ∀ g, (Value.slice (some ⟨g', 0, none⟩) n cap).ownBlock = some g → ¬ O g ∧ g ≠ b) ∧ Below B w w5 ∧ B ≤ w5.heap.size := by
  have hb4 := below_two w3 A A'
  have h4 : B ≤ ((w3.alloc A).alloc A').heap.size := Nat.le_trans hB hb4.size
  exact ⟨ex_app hb4 hex hg ho, (hbel.trans (hb4.mono hB)).grown hg h4 (fun r hr => hrow.blk_ge r hr), Nat.le_trans h4 hg.size⟩
theorem ex_sync {B : Nat} {w5 w6 : World} {b d : Nat} {O : Nat → Prop} {W : Ws} {S : Ds} {v : Value} (h2 : ∀ x, O x → B ≤ x) (h3 : ∀ g, v.ownBlock = some g → ¬ O g ∧ g ≠ b) (hB : B ≤ w5.heap.size) (hlt : ∀ g, v.ownBlock = some g → g < w5.heap.size) (h : Nw O w5 b d W S w6) : ∃ O, WK w6 b d O W S ∧ (∀ x, O x → B ≤ x) ∧ ∀ g, v.ownBlock = some g → ¬ O g ∧ g ≠ b := by
  obtain ⟨O', k1, k2, k3⟩ := h
  exact ⟨O', k1, fun x q => (k3 x q).elim (h2 x) (fun q => Nat.le_trans hB q), fun g hg => ⟨fun q => (k3 g q).elim (h3 g hg).1 (fun q => by have := hlt g hg; omega), (h3 g hg).2⟩⟩
set_option maxRecDepth 100000 in
set_option maxHeartbeats 1000000 in
theorem written_is (B : Nat) (w : World) (b d : Nat) (O : Nat → Prop) (lim evy : Int) (v : Value) (ls : List Ln) (h : WK w b d O (w0S lim evy) (ds0 1000000)) (hO : ∀ x, O x → B ≤ x) (hbB : B ≤ b) (hBs : B ≤ w.heap.size) (hL : IsL B w v ls) :
    Calls Tryz.prog 7 #[.pointer (some ⟨b, 0, none⟩), v] w fun e w' => ∃ u, e = .returned (.tuple #[u, .bool true]) ∧ Wq B w b d ls (w0S lim evy, ds0 1000000) (min ls.length 60) u w' := by
  obtain ⟨a, c, rfl⟩ := hL.shape
  obtain ⟨X, hX⟩ : ∃ X, X = (w0S lim evy, ds0 1000000) := ⟨_, rfl⟩
  have HOK : Hid (∀ k, k ≤ 60 → Ok (64 + pk lim 400) (pk evy 6) k (sat ls X k)) := by rw [hX]; exact sat_ok lim evy ls
  have H0 : Hid (Wq B w b d ls X 0 (.slice none 0 0) w) := by
    refine ⟨⟨O, ?_, hO, fun g hg => by cases hg⟩, jr_nil w B, Below.refl _ _, hbB⟩
    rw [hX]; exact h
  have HL := hd hL
  rw [← hX]
  have hBm : ls.length ≤ 140737488355328 := hL.2.1
  clear h hO hbB hL hX
  go_enter Tryz.func7, Tryz.ntmps7
  go_wp2_with fail
  go_loopw [6, 7] (fun u i wq => ∃ k : Nat, k ≤ ls.length ∧ k ≤ 60 ∧ i = .int .i64 (k : Int) ∧ Wq B w b d ls X k u wq) (fun _ i _ => ls.length - (intOf i).toNat)
  case atStart => exact ⟨0, by omega, by omega, rfl, H0.out⟩
  case round =>
    obtain ⟨k, hk, hk6, rfl, hW⟩ := hrel
    have HW := hd hW
    clear hW
    by_cases hlt : k < ls.length
    · by_cases h60 : k < 60
      · obtain ⟨lb, off, l, rfl, hlk, hgd, hks, hvs, d0, d1, d2, d3⟩ := (HL.out.below HW.out.bel).at hlt
        have HLS := hd hgd
        clear hlk hgd
        have hBr : B ≤ wr.heap.size := Nat.le_trans hBs HW.out.bel.size
        go_wp2_with fail
        refine Calls.mono (record_is l k wr hks hvs (by omega)) ?_
        rintro e w2 ⟨rfl, hB2⟩
        have hW2 := HW.out.bels hB2 hBr
        have HPU := hd (hW2.put (HOK.out k hk6) h60 l (Nat.le_trans hBr hB2.size))
        have HD3 : Hid (∀ w', Below B w w' → w'.cell? ⟨lb, off + k * 4 + 3, none⟩ = some (.bool l.syn)) := by
          intro w' hb'
          obtain ⟨lb', off', l', e1, _, e2, _, _, _, _, _, q3⟩ := (HL.out.below hb').at hlt
          injection e1 with e1
          injection e1 with e1 e4
          subst e1 e4
          rw [← HLS.out, e2]; exact q3
        have hst := (HOK.out k hk6).step h60 l
        have HNX : Hid (sat ls X (k + 1) = stp l k (sat ls X k) ∧ pls ls X (k + 1) = pls ls X k ++ [plc l k (sat ls X k)]) := by
          rw [← HLS.out]; exact ⟨rfl, rfl⟩
        have HPL := hd (pls_len ls X k)
        have HLE := hd HW.out.le
        clear hB2 hW2 d0 d1 d2 d3
        have HST := hd hst
        clear hst
        obtain ⟨⟨p1, p2, p3⟩, hp⟩ : ∃ p, plc l k (sat ls X k) = p := ⟨_, rfl⟩
        rw [hp] at HPU HNX
        clear hp
        have HCC : Hid (∀ (ww : World) (A : Obj) (j : Nat) (u : Value), ([.int .u32 (p1 : Int), .int .i64 (p2 : Int), .int .i64 (p3 : Int)] : List Value)[j]? = some u → ((ww.alloc A).alloc (.cells #[.int .u32 (p1 : Int), .int .i64 (p2 : Int), .int .i64 (p3 : Int)] TPl)).cell? ⟨ww.heap.size + 1, j, none⟩ = some u) := by
          intro ww A j u hu
          have := Blk.new (ww.alloc A) TPl [.int .u32 (p1 : Int), .int .i64 (p2 : Int), .int .i64 (p3 : Int)]
          rw [alloc_size] at this
          exact this.cell j u hu
        go_wp2_with fail
        refine Calls.mono HPU.out ?_
        rintro e w3 ⟨rfl, hex, hrow, hbel, hBs3⟩
        have HEX := hd hex
        have HROW := hd hrow
        have HBEL := hd hbel
        clear hex hrow hbel
        have HONE : Hid (∀ u ∈ ([.int .u32 (p1 : Int), .int .i64 (p2 : Int), .int .i64 (p3 : Int)] : List Value), u.oneCell' = true) := by
          intro u hu; simp at hu; rcases hu with rfl | rfl | rfl <;> rfl
        cases hsy : l.syn
        · have HSY := hd hsy
          rw [hsy] at HD3
          clear hsy
          go_wp2_with (at_builtin; refine wpList_append_jr Tryz.underlying28 info_pl rfl (by decide) _ rfl _ _ rfl B u6 ((pls ls X k).map plC) (w3.heap.size + 1) 1 [.int .u32 (p1 : Int), .int .i64 (p2 : Int), .int .i64 (p3 : Int)] rfl rfl ((HROW.out.alloc _).alloc _) rfl HONE.out (HCC.out w3 _) (k + 1) (by rw [List.length_map, HPL.out]) (by omega) (by unfold maxLen; omega) (by rw [alloc_size, alloc_size]; omega) ?_; intro g' cap w5 hJ5 hg5 ho5; have hz := app_all (n := k + 1) (cap := cap) HEX.out HROW.out HBEL.out hBs3 hg5 ho5; have e3 := HD3.out w5 hz.2.1; have HZ := hd hz; have HJ5 := hd hJ5; clear hJ5 hg5 ho5 hz)
          go_roundw
          case rel =>
            refine ⟨k + 1, by omega, by omega, by go_num, ?_⟩
            have hs1 : sat ls X (k + 1) = (pt (sat ls X k).1 (sat ls X k).2 (fB l k)).2 := by rw [HNX.out.1]; unfold stp; rw [HSY.out]; rfl
            refine ⟨?_, ?_, HZ.out.2.1, HLE.out⟩
            · rw [hs1]; exact HZ.out.1
            · rw [HNX.out.2, List.map_append]; exact HJ5.out
          case measure => simp [intOf]; omega
        · have HSY := hd hsy
          rw [hsy] at HD3
          clear hsy
          go_wp2_with (at_builtin; refine wpList_append_jr Tryz.underlying28 info_pl rfl (by decide) _ rfl _ _ rfl B u6 ((pls ls X k).map plC) (w3.heap.size + 1) 1 [.int .u32 (p1 : Int), .int .i64 (p2 : Int), .int .i64 (p3 : Int)] rfl rfl ((HROW.out.alloc _).alloc _) rfl HONE.out (HCC.out w3 _) (k + 1) (by rw [List.length_map, HPL.out]) (by omega) (by unfold maxLen; omega) (by rw [alloc_size, alloc_size]; omega) ?_; intro g' cap w5 hJ5 hg5 ho5; have hz := app_all (n := k + 1) (cap := cap) HEX.out HROW.out HBEL.out hBs3 hg5 ho5; have e3 := HD3.out w5 hz.2.1; have HZ := hd hz; have HJ5 := hd hJ5; clear hJ5 hg5 ho5 hz)
          obtain ⟨O5, hk5, ho5', hv5⟩ := HZ.out.1
          have hun : (pt (sat ls X k).1 (sat ls X k).2 (fB l k)).2.1.uns ≠ 0 → Nam.Nu (pt (sat ls X k).1 (sat ls X k).2 (fB l k)).2.1.num := fun _ => HST.out.2.2.2.2.2.1
          have HWS := hd (wsync_is w5 b d O5 _ _ hk5 HST.out.2.2.2.1 (by have := HST.out.2.2.2.2.1; omega) hun)
          rw [HST.out.2.1] at HWS
          have HO5 := hd ho5'
          have HV5 := hd hv5
          clear hk5 ho5' hv5 hun
          refine Calls.mono HWS.out ?_
          rintro e w6 ⟨rfl, hN6⟩
          have hlt5 : ∀ g, (Value.slice (some ⟨g', 0, none⟩) (k + 1) cap).ownBlock = some g → g < w5.heap.size := HJ5.out.blk_lt
          have HE6 := hd (ex_sync HO5.out HV5.out HZ.out.2.2 hlt5 hN6)
          have HN6 := hd hN6
          clear hN6 hlt5
          go_wp2_with fail
          go_roundw
          case rel =>
            refine ⟨k + 1, by omega, by omega, by go_num, ?_⟩
            have hs1 : sat ls X (k + 1) = (syR (pt (sat ls X k).1 (sat ls X k).2 (fB l k)).2.1 (pt (sat ls X k).1 (sat ls X k).2 (fB l k)).2.2).2 := by rw [HNX.out.1]; unfold stp; rw [HSY.out]; rfl
            obtain ⟨O6, _, q2, _⟩ := HN6.out
            refine ⟨?_, ?_, ?_, HLE.out⟩
            · rw [hs1]; exact HE6.out
            · rw [HNX.out.2, List.map_append]
              exact jr_same HJ5.out fun g hg => q2.block g (HJ5.out.blk_lt g hg) (fun q => q.elim (HV5.out g hg).1 (HV5.out g hg).2)
            · exact HZ.out.2.1.trans (q2.below (fun x q => q.elim (HO5.out x) (fun e => by rw [e]; exact HLE.out)) HZ.out.2.2)
          case measure => simp [intOf]; omega
      · obtain rfl : k = 60 := by omega
        go_wp2_with fail
        go_ret2
        exact ⟨_, rfl, by rw [show min ls.length 60 = 60 by omega]; exact HW.out⟩
    · obtain rfl : k = ls.length := by omega
      go_wp2_with fail
      go_ret2
      exact ⟨_, rfl, by rw [show min ls.length 60 = ls.length by omega]; exact HW.out⟩
end Sg
end Go.Proofs.YtnakaomgceoobaaGreat
