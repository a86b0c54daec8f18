/-
  A REGION THAT DRAWS ITS ORDER, by an invariant, with operations that their guards pass over. No condition beyond those that the theorem bears.
  THE WALKS OF A WRITER'S begin, lay, fits.
-/
import Derived.Test.YtolddolfpnkndaaGreatXuan
import Derived.Test.YtolddolfpnkndaaGreatXuao
namespace Go.Proofs.YtolddolfpnkndaaGreat
open Go Go.RowKit
theorem skip_good {P : Program} {o : Oper} {a : Act} {w : World} {Q : Exit → Act → World → Prop} {ops : Array Oper} (good : Value → World → Prop) {X : Prop} (hw : Region.wanted o (yielded ops a.tmps) = true)
    (h : ∀ K : Act → World → Prop, (∀ v w', good v w' → K (a.put o.dst v) w') → o.wp P a w K Q) :
    if Region.wanted o (yielded ops a.tmps) then o.wp P a w (fun a' w' => ∃ v, a' = a.put o.dst v ∧ good v w') Q else X := by
  rw [if_pos hw]
  exact h _ (fun v w' hg => ⟨v, rfl, hg⟩)
theorem skip_no {o : Oper} {f : Nat → Option Bool} {A X : Prop} {j : Nat} {b : Bool} (h : o.guard = some (j, !b)) (hf : f j = some b) (hx : X) : if Region.wanted o f then A else X := by
  rw [if_neg]
  · exact hx
  · unfold Region.wanted; rw [h]; simp [hf]
theorem skip_un {o : Oper} {f : Nat → Option Bool} {A X : Prop} {j : Nat} {b : Bool} (h : o.guard = some (j, b)) (hf : f j = none) (hx : X) : if Region.wanted o f then A else X := by
  rw [if_neg]
  · exact hx
  · unfold Region.wanted; rw [h]; simp [hf]
theorem yielded_un {ops : Array Oper} {t : Array Value} {j d : Nat} (hj : dstOf ops j = some d) (hv : t.getD d undef = undef) : yielded ops t j = none := by
  unfold yielded
  unfold dstOf at hj
  rw [hj]
  simp only [Option.bind_some]
  rw [Array.getD_eq_getD_getElem?] at hv
  cases h : t[d]? with
  | none => rfl
  | some v =>
    rw [h] at hv
    simp only [Option.getD_some] at hv
    subst hv
    rfl
/-- region_inv, where an operation may be passed over by its guard: it yields undef then. 'G i v w': what operation i has yielded, v, is good in the world w; it stays so while the world grows ('W', 'stable'); each operation, its forerunners' yields being good, yields something good ('step'). -/
theorem region_skip {P : Program} {id : Nat} {ops : Array Oper} {Q : Exit → Act → World → Prop} {a0 : Act} {w0 : World} (G : Nat → Value → World → Prop) (W : World → Prop)
    (hm : P.follows .mixedOrders = true) (hd : dstsApart ops a0.tmps.size = true) (hah : aftersBound ops = true) (hW0 : W w0.drew)
    (stable : ∀ i v w w', W w → W w' → Below w.heap.size w w' → G i v w → G i v w')
    (step : ∀ i o, ops[i]? = some o → ∀ a w, W w → a.defers = a0.defers → a.tmps.size = a0.tmps.size →
      (∀ k, (∀ j, j < ops.size → dstOf ops j ≠ some k) → a.tmps.getD k undef = a0.tmps.getD k undef) →
      (∀ e ∈ o.after, Region.binds .any e = true → G e.on (slotOf ops a e.on) w) →
      (if Region.wanted o (yielded ops a.tmps) then o.wp P a w (fun a' w' => ∃ v, a' = a.put o.dst v ∧ Below w.heap.size w w' ∧ W w' ∧ G i v w') Q else G i undef w))
    (done : ∀ a w, W w → a.defers = a0.defers → a.tmps.size = a0.tmps.size →
      (∀ k, (∀ j, j < ops.size → dstOf ops j ≠ some k) → a.tmps.getD k undef = a0.tmps.getD k undef) →
      (∀ i, i < ops.size → G i (slotOf ops a i) w) → Q .normal a w) :
    (Code.region id ops true).wp P Q a0 w0 := by
  refine wp_region_any hm ?_
  refine wpAny_inv (fun L a w => L.size = ops.size ∧ W w ∧ a.defers = a0.defers ∧ a.tmps.size = a0.tmps.size ∧
      (∀ k, (∀ j, j < ops.size → dstOf ops j ≠ some k) → a.tmps.getD k undef = a0.tmps.getD k undef) ∧
      (∀ i, i < ops.size → L.getD i false = true → G i (slotOf ops a i) w)) (fun L a w h => h.1) ?_ ?_ _ _ _ _ ?_ ?_
  · rintro L a w i ⟨h1, h2, h3, h4, h5, h6⟩ hi
    obtain ⟨o, ho, hlt, hL, haf⟩ := ready_spec hi
    obtain ⟨d, hdi, hdn, hdj⟩ := dsts_spec hd hlt
    have hod : o.dst = some d := by simpa [dstOf, ho] using hdi
    have hst := step i o ho a w h2 h3 h4 h5 (fun e he hb => h6 e.on (by
      have := haf e he hb
      rcases Nat.lt_or_ge e.on ops.size with h' | h'
      · exact h'
      · rw [Array.getD_eq_getD_getElem?, Array.getElem?_eq_none (by omega)] at this; simp at this) (haf e he hb))
    have fin : ∀ v w', Below w.heap.size w w' → W w' → G i v w' → (L.setIfInBounds i true).size = ops.size ∧ W w' ∧ (a.put o.dst v).defers = a0.defers ∧ (a.put o.dst v).tmps.size = a0.tmps.size ∧
        (∀ k, (∀ j, j < ops.size → dstOf ops j ≠ some k) → (a.put o.dst v).tmps.getD k undef = a0.tmps.getD k undef) ∧
        (∀ j, j < ops.size → (L.setIfInBounds i true).getD j false = true → G j (slotOf ops (a.put o.dst v) j) w') := by
      intro v w' hb hW' hG
      have hda : d < a.tmps.size := by omega
      rw [hod]
      refine ⟨by rw [Array.size_setIfInBounds]; exact h1, hW', by simp only [Act.put]; exact h3, by simp only [Act.put, Array.size_setIfInBounds]; exact h4, ?_, ?_⟩
      · intro k hk
        rw [getD_put _ _ _ _ hda, if_neg (fun e => hk i hlt (by rw [e]; exact hdi))]
        exact h5 k hk
      · intro j hj hLj
        by_cases e : j = i
        · subst e
          unfold slotOf
          rw [hdi, Option.getD_some, getD_put _ _ _ _ hda, if_pos rfl]
          exact hG
        · obtain ⟨dj, hdj1, hdj2, hdj3⟩ := dsts_spec hd hj
          have hne : dj ≠ d := fun e2 => hdj j hj e (by rw [← e2]; exact hdj1)
          unfold slotOf
          rw [hdj1, Option.getD_some, getD_put _ _ _ _ hda, if_neg hne]
          have hLj' : L.getD j false = true := by
            rw [Array.getD_eq_getD_getElem?, Array.getElem?_setIfInBounds_ne (by omega)] at hLj
            rw [Array.getD_eq_getD_getElem?]; exact hLj
          have := h6 j hj hLj'
          unfold slotOf at this
          rw [hdj1, Option.getD_some] at this
          exact stable j _ w w' h2 hW' hb this
    unfold wpOp
    rw [ho]
    split at hst
    · rename_i hw
      simp only [hw, if_true]
      refine .inl (Oper.wp_mono ?_ hst)
      rintro a' w' ⟨v, rfl, hb, hW', hG⟩
      exact fin v w' hb hW' hG
    · rename_i hw
      simp only [hw]
      exact fin undef w (Below.refl _ _) h2 hst
  · rintro L a w ⟨h1, h2, h3, h4, h5, h6⟩ hr
    exact done a w h2 h3 h4 h5 fun i hi => h6 i hi (all_listedB hah h1 hr i hi)
  · refine ⟨by simp, hW0, rfl, rfl, fun _ _ => rfl, fun i hi h => ?_⟩
    rw [Array.getD_eq_getD_getElem?, Array.getElem?_replicate] at h
    simp [hi] at h
  · unfold left
    exact Nat.le_trans (List.countP_le_length) (by simp)
end Go.Proofs.YtolddolfpnkndaaGreat
namespace Go.Proofs.YtolddolfpnkndaaGreat
open Go.RowKit Go.Maps Go.Sort
namespace Sg
open Vt Dk
attribute [local go_sem ↓] append_hid
theorem Nw.join {w w1 w2 : World} {b d : Nat} {O O1 : Nat → Prop} {W' : Ws} {S' : Ds} (h2 : Tr (fun x => O x ∨ x = b) w w1) (h3 : ∀ x, O1 x → O x ∨ w.heap.size ≤ x) (g : Nw O1 w1 b d W' S' w2) : Nw O w b d W' S' w2 := by
  obtain ⟨O2, g1, g2, g3⟩ := g
  refine ⟨O2, g1, h2.trans g2 fun x q => ?_, fun x q => ?_⟩
  · rcases q with q | q
    · exact (h3 x q).imp .inl id
    · exact .inl (.inr q)
  · rcases g3 x q with q | q
    · exact h3 x q
    · exact .inr (Nat.le_trans h2.size q)
set_option maxRecDepth 100000 in
set_option maxHeartbeats 1000000 in
theorem begin_is (w : World) (b d : Nat) (O : Nat → Prop) (W : Ws) (S : Ds) (h : WK w b d O W S) (ha : S.acts < 2000000) (hn : W.uns ≠ 0 → Nam.Nu W.num) :
    Calls Tryz.prog 29 #[.pointer (some ⟨b, 0, none⟩)] w fun e w' => e = .returned (.int .i64 ((bgR W S).1 : Int)) ∧ Nw O w b d (bgR W S).2.1 (bgR W S).2.2 w' := by
  have HS := hd (asyR_is w b d O W S h (by omega) hn)
  obtain ⟨r, W1, S1, hR⟩ : ∃ r W1 S1, syR W S = (r, W1, S1) := ⟨_, _, _, rfl⟩
  have hac : S1.acts ≤ S.acts + 1 := by have := syR_acts W S; rw [hR] at this; exact this
  have hbg : bgR W S = if r ≠ 0 then (r, W1, S1) else ((create S1 (nmS (fr S1.fs))).1, if (create S1 (nmS (fr S1.fs))).1 = 0 then { W1 with num := fr S1.fs, laid := 0 } else shut (create S1 (nmS (fr S1.fs))).1 W1, (create S1 (nmS (fr S1.fs))).2) := by
    unfold bgR; rw [hR]
  rw [hR] at HS
  rw [hbg]
  clear hbg hn h
  by_cases h0 : r = 0
  · subst h0
    rw [if_neg (by omega)]
    obtain ⟨n, hnn⟩ : ∃ n, n = fr S1.fs := ⟨_, rfl⟩
    obtain ⟨r, hr⟩ : ∃ r, r = (create S1 (nmS n)).1 := ⟨_, rfl⟩
    obtain ⟨S2, hS2⟩ : ∃ S2, S2 = (create S1 (nmS n)).2 := ⟨_, rfl⟩
    rw [← hnn, ← hr, ← hS2]
    go_enter Tryz.func29, Tryz.ntmps29
    go_wp2_with fail
    refine Calls.mono HS.out ?_
    rintro e w1 ⟨rfl, hN⟩
    obtain ⟨O1, hK1, hT1, hO1⟩ := hN
    have c0 := hK1.2.1.cell 0 _ rfl
    have c4 := hK1.2.1.cell 4 _ rfl
    have c5 := hK1.2.1.cell 5 _ rfl
    have HK1 := hd hK1
    have HT1 := hd hT1
    have HO1 := hd hO1
    have hcnt : S1.fs.length ≤ S1.acts + 200 := hK1.1.good.cnt
    have hNu : Nam.Nu n := by
      have := fr_ok S1.fs
      rw [hnn]
      exact ⟨this.1, by have := this.2.1; unfold nms at this; rw [List.length_map] at this; omega⟩
    have HAS : Hid (∀ w3, Below w1.heap.size w1 w3 → WK w3 b d O1 W1 S1 → Calls Tryz.prog 54 #[.pointer (some ⟨b, 0, none⟩), .func (.func 55) #[.pointer (some ⟨d, 0, none⟩)] #[], .int .u32 (n : Int)] w3 fun e w' => e = .returned (.int .i64 (r : Int)) ∧ Nw O1 w3 b d (shut r W1) S2 w') := by
      intro w3 _ hk
      rw [hr, hS2]
      exact ask_is w3 b d O1 W1 S1 _ 55 #[.pointer (some ⟨d, 0, none⟩)] #[] _ n hNu (create_lt _ _) hk cf_create fun w5 _ hk => create_is w5 d O1 S1 (nmS n) hk.1 (by omega)
    have HFN : Hid (∀ w3 w4, Tr (fun x => O x ∨ x = b) w w1 → Below w1.heap.size w1 w3 → (∀ x, O1 x → O x ∨ w.heap.size ≤ x) → Nw O1 w3 b d (shut r W1) S2 w4 → Nw O w b d (shut r W1) S2 w4 ∧ (r = 0 → w4.cell? ⟨b, 4, none⟩ = some (.int .u32 (W1.num : Int)) ∧ w4.cell? ⟨b, 5, none⟩ = some (.int .i64 (W1.laid : Int)) ∧ w4.frozen? ⟨b, 4, none⟩ = false ∧ w4.frozen? ⟨b, 5, none⟩ = false ∧ b < w4.heap.size ∧ Nw O w b d { W1 with num := n, laid := 0 } S2 ((w4.setCell ⟨b, 4, none⟩ (.int .u32 (n : Int))).setCell ⟨b, 5, none⟩ (.int .i64 0)))) := by
      intro w3 w4 t1 b3 o1 q
      have hA : ∀ {W' S' w'}, Nw O1 w3 b d W' S' w' → Nw O w b d W' S' w' := by
        rintro W' S' w' ⟨O2, p1, p2, p3⟩
        refine ⟨O2, p1, (t1.trans (Tr.ofB b3 _) fun x q => .inl q).trans p2 fun x q => ?_, fun x q => ?_⟩
        · rcases q with q | q
          · exact (o1 x q).imp .inl id
          · exact .inl (.inr q)
        · rcases p3 x q with q | q
          · exact o1 x q
          · exact .inr (Nat.le_trans t1.size (Nat.le_trans b3.size q))
      refine ⟨hA q, fun e => ?_⟩
      subst e
      rw [show shut 0 W1 = W1 from if_neg (by omega)] at q
      obtain ⟨O2, hk, hk2, hk3⟩ := q
      exact ⟨hk.2.1.cell 4 _ rfl, hk.2.1.cell 5 _ rfl, hk.2.1.frozen 4, hk.2.1.frozen 5, hk.2.1.lt, hA (Nw.trans ⟨O2, hk, hk2, hk3⟩ fun O3 q => q.write (W' := { W1 with num := n, laid := 0 }) ((Tr.set (O := fun x => x = b) rfl _).trans (Tr.set (O := fun x => x = b) rfl _) fun x q => .inl q) (Blk.set (j := 5) (Blk.set (j := 4) q.2.1 (.int .u32 (n : Int))) (.int .i64 0)))⟩
    obtain ⟨R, hR1, hR2⟩ := pick_is w1 d O1 S1 hK1.1 (by omega) (fun e w' => e = .returned (.tuple #[.int .u32 (n : Int), .int .i64 0]) ∧ Below w1.heap.size w1 w') (fun w' hb => ⟨by rw [hnn], hb⟩)
    have HR2 := hd hR2
    clear hK1 hT1 hO1 hR2 hr hS2 hnn hcnt hNu
    go_wp2_with fail
    refine Calls.mono hR1 ?_
    intro e w2 he
    obtain ⟨v, rfl, hb2, hFr⟩ := HR2.out e w2 he
    go_wp2_with fail
    refine Calls.mono hFr ?_
    rintro e w3 ⟨rfl, hb3⟩
    have hK3 := HK1.out.below hb3
    have e0 := hK3.2.1.cell 0 _ rfl
    have HK3 := hd hK3
    have HB3 := hd hb3
    clear hK3 hb3 hb2 hFr c0 c4 c5
    go_wp2_with fail
    refine Calls.mono (HAS.out w3 HB3.out HK3.out) ?_
    rintro e w4 ⟨rfl, hN4⟩
    obtain ⟨hN4', hz4⟩ := HFN.out w3 w4 HT1.out HB3.out HO1.out hN4
    have HN4 := hd hN4'
    clear hN4 hN4'
    by_cases hz : r = 0
    · obtain ⟨d4, d5, g4, g5, hl4, hs1⟩ := hz4 hz
      have HQ1 := hd hs1
      subst hz
      clear hz4 hs1
      go_wp2_with fail
      go_ret
      exact ⟨rfl, HQ1.out⟩
    · have z1 : ¬ ((r : Int) = 0) := by omega
      have HZ1 := hd hz
      clear hz hz4
      go_wp2_with fail
      go_ret
      exact ⟨rfl, HN4.out⟩
  · have z : ¬ ((r : Int) = 0) := by omega
    have HZ := hd h0
    rw [if_pos h0]
    clear h0
    go_enter Tryz.func29, Tryz.ntmps29
    go_wp2_with fail
    refine Calls.mono HS.out ?_
    rintro e w1 ⟨rfl, hN⟩
    have HN := hd hN
    clear hN
    go_wp2_with fail
    go_ret
    exact ⟨rfl, HN.out⟩
/-! ### lay -/
def ly (W : Ws) (S : Ds) (l : List Nat) : Nat × Ws × Ds :=
  if (append S (nmS W.num) l).1 ≠ 0 then ((append S (nmS W.num) l).1, shut (append S (nmS W.num) l).1 W, (append S (nmS W.num) l).2)
  else if W.evy = 0 ∨ W.uns + 1 < W.evy then (0, { W with laid := W.laid + l.length, uns := W.uns + 1 }, (append S (nmS W.num) l).2)
  else syR { W with laid := W.laid + l.length, uns := W.uns + 1 } (append S (nmS W.num) l).2
theorem append_acts (S : Ds) (s : ByteArray) (l : List Nat) : (append S s l).2.acts ≤ S.acts + 1 := by
  unfold append actOf run gAppend tick
  split
  · exact Nat.le_succ _
  · split
    · cases S.done <;> simp
    · split <;> simp
set_option maxRecDepth 100000 in
theorem with_is (w : World) (a : Option Addr) (n c : Nat) (f : FuncId) (A C : Array Value) : Calls Tryz.prog 56 #[.slice a n c, .func (.func f) A C] w fun e w' => e = .returned (.func (.func 86) #[] #[.pointer (some ⟨w.heap.size + 1, 0, none⟩), .pointer (some ⟨w.heap.size, 0, none⟩)]) ∧ w' = (w.alloc (.cells #[.slice a n c] 49)).alloc (.cells #[.func (.func f) A C] 128) := by
  go_enter Tryz.func56, Tryz.ntmps56
  go_wp2_with fail
  go_ret
  exact ⟨rfl, rfl⟩
set_option maxRecDepth 100000 in
theorem with1_is (w : World) (x y d : Nat) (O : Nat → Prop) (S : Ds) (s : ByteArray) (a : Option Addr) (c : Nat) (l : List Nat) (h : DK w d O S) (ha : S.acts < 4611686018427387904) (hx : Blk w x 49 [.slice a l.length c]) (hy : Blk w y 128 [.func (.func 57) #[.pointer (some ⟨d, 0, none⟩)] #[]]) (hI : IsB w (.slice a l.length c) l) (hn : l ≠ [] → ∀ b off n' c', Value.slice a l.length c = .slice (some ⟨b, off, none⟩) n' c' → b ≠ d) :
    Calls Tryz.prog 86 #[.string s, .pointer (some ⟨y, 0, none⟩), .pointer (some ⟨x, 0, none⟩)] w fun e w' => e = .returned (.int .i64 ((append S s l).1 : Int)) ∧ Nx O w d (append S s l).2 w' := by
  have HA := hd (append_is w d O S s (.slice a l.length c) l h ha hI hn)
  have c0 := hx.cell 0 _ rfl
  have c1 := hy.cell 0 _ rfl
  have hcf := cf_append
  clear hx hy hI hn h
  go_enter Tryz.func86, Tryz.ntmps86
  go_wp2_with fail
  refine Calls.mono HA.out ?_
  rintro e w2 ⟨rfl, hN⟩
  have HN := hd hN
  clear hN
  go_wp2_with fail
  go_ret
  exact ⟨rfl, HN.out⟩
set_option maxRecDepth 100000 in
set_option maxHeartbeats 1000000 in
theorem lay_is (w : World) (b d : Nat) (O : Nat → Prop) (W : Ws) (S : Ds) (ua : Option Addr) (c : Nat) (l : List Nat) (h : WK w b d O W S) (ha : S.acts < 2000000) (hnu : Nam.Nu W.num) (hI : IsB w (.slice ua l.length c) l) (hn : l ≠ [] → ∀ g off n' c', Value.slice ua l.length c = .slice (some ⟨g, off, none⟩) n' c' → g ≠ d) (hl1 : W.laid < 1000000000) (hl2 : l.length < 1000000000) (hl3 : W.uns < 1000000000) :
    Calls Tryz.prog 30 #[.pointer (some ⟨b, 0, none⟩), .slice ua l.length c] w fun e w' => e = .returned (.int .i64 ((ly W S l).1 : Int)) ∧ Nw O w b d (ly W S l).2.1 (ly W S l).2.2 w' := by
  obtain ⟨r, hr⟩ : ∃ r, r = (append S (nmS W.num) l).1 := ⟨_, rfl⟩
  obtain ⟨S2, hS2⟩ : ∃ S2, S2 = (append S (nmS W.num) l).2 := ⟨_, rfl⟩
  have hac : S2.acts ≤ S.acts + 1 := by rw [hS2]; exact append_acts _ _ _
  have hly : ly W S l = if r ≠ 0 then (r, shut r W, S2) else if W.evy = 0 ∨ W.uns + 1 < W.evy then (0, { W with laid := W.laid + l.length, uns := W.uns + 1 }, S2) else syR { W with laid := W.laid + l.length, uns := W.uns + 1 } S2 := by unfold ly; rw [hr, hS2]
  obtain ⟨w1, hw1⟩ : ∃ w1, w1 = (w.drew.alloc (.cells #[.slice ua l.length c] 49)).alloc (.cells #[.func (.func 57) #[.pointer (some ⟨d, 0, none⟩)] #[]] 128) := ⟨_, rfl⟩
  have hb1 : Below w.heap.size w w1 := by
    rw [hw1]
    have e0 : Below w.heap.size w w.drew := ⟨rfl, rfl, rfl, Nat.le_refl _, fun _ _ => rfl⟩
    exact (e0.alloc (Nat.le_refl _) _).alloc (by show w.heap.size ≤ (w.drew.alloc _).heap.size; rw [alloc_size]; exact Nat.le_succ _) _
  have hx1 : Blk w1 w.heap.size 49 [.slice ua l.length c] := by
    rw [hw1]
    exact (Blk.new w.drew _ [.slice ua l.length c]).alloc _
  have hy1 : Blk w1 (w.heap.size + 1) 128 [.func (.func 57) #[.pointer (some ⟨d, 0, none⟩)] #[]] := by
    rw [hw1]
    have := Blk.new (w.drew.alloc (.cells #[.slice ua l.length c] 49)) 128 [.func (.func 57) #[.pointer (some ⟨d, 0, none⟩)] #[]]
    rwa [alloc_size] at this
  have HA : Hid (Calls Tryz.prog 54 #[.pointer (some ⟨b, 0, none⟩), .func (.func 86) #[] #[.pointer (some ⟨w.heap.size + 1, 0, none⟩), .pointer (some ⟨w.heap.size, 0, none⟩)], .int .u32 (W.num : Int)] w1 fun e w' => e = .returned (.int .i64 (r : Int)) ∧ Nw O w1 b d (shut r W) S2 w') := by
    rw [hr, hS2]
    refine ask_is w1 b d O W S (append S (nmS W.num) l).2 86 #[] #[.pointer (some ⟨w.heap.size + 1, 0, none⟩), .pointer (some ⟨w.heap.size, 0, none⟩)] (append S (nmS W.num) l).1 W.num hnu (append_lt _ _ _) (h.below hb1) cf_with1 fun w5 hb5 hk => ?_
    exact with1_is w5 w.heap.size (w.heap.size + 1) d O S (nmS W.num) ua c l hk.1 (by omega) (hx1.below (hx1.lt) hb5) (hy1.below hy1.lt hb5) ((hI.below hb1).below hb5) hn
  have RC : Hid (∀ w9, (w9 = w.drew ∨ w9 = w1 ∨ ∃ v, v = Value.int .i64 (r : Int) ∧ Nw O w1 b d (shut r W) S2 w9) → w9.cell? ⟨b, 0, none⟩ = some (.pointer (some ⟨d, 0, none⟩)) ∧ w9.cell? ⟨b, 4, none⟩ = some (.int .u32 (W.num : Int))) := by
    rintro w9 (rfl | rfl | ⟨v, _, O9, q9, _⟩)
    · exact ⟨h.2.1.cell 0 _ rfl, h.2.1.cell 4 _ rfl⟩
    · exact ⟨(h.below hb1).2.1.cell 0 _ rfl, (h.below hb1).2.1.cell 4 _ rfl⟩
    · exact ⟨q9.2.1.cell 0 _ rfl, (q9.2.1.cell 4 _ rfl).trans (by unfold shut; split <;> rfl)⟩
  have HWI := hd (with_is w.drew ua l.length c 57 #[.pointer (some ⟨d, 0, none⟩)] #[])
  have hmx : Tryz.prog.follows .mixedOrders = true := by kernel_rfl
  have HW1 := hd hw1
  have HB1 := hd hb1
  obtain ⟨W2, hW2⟩ : ∃ W2 : Ws, W2 = { W with laid := W.laid + l.length, uns := W.uns + 1 } := ⟨_, rfl⟩
  have HZ : Hid (∀ w9, Nw O w1 b d (shut r W) S2 w9 → Nw O w b d (shut r W) S2 w9 ∧ (r = 0 → w9.cell? ⟨b, 5, none⟩ = some (.int .i64 (W.laid : Int)) ∧ w9.cell? ⟨b, 6, none⟩ = some (.int .i64 (W.uns : Int)) ∧ w9.cell? ⟨b, 2, none⟩ = some (.int .i64 (W.evy : Int)) ∧ w9.frozen? ⟨b, 5, none⟩ = false ∧ w9.frozen? ⟨b, 6, none⟩ = false ∧ b < w9.heap.size ∧ ∀ w10, w10 = (w9.setCell ⟨b, 5, none⟩ (.int .i64 ((W.laid : Int) + (l.length : Int)))).setCell ⟨b, 6, none⟩ (.int .i64 ((W.uns : Int) + 1)) → (w10.cell? ⟨b, 2, none⟩ = some (.int .i64 (W.evy : Int)) ∧ w10.cell? ⟨b, 6, none⟩ = some (.int .i64 ((W.uns : Int) + 1))) ∧ Nw O w b d W2 S2 w10.drew)) := by
    intro w9 q
    refine ⟨Nw.behind hb1 q, fun e => ?_⟩
    subst e
    rw [show shut 0 W = W from if_neg (by omega)] at q
    obtain ⟨O2, hk, hk2, hk3⟩ := q
    refine ⟨hk.2.1.cell 5 _ rfl, hk.2.1.cell 6 _ rfl, hk.2.1.cell 2 _ rfl, hk.2.1.frozen 5, hk.2.1.frozen 6, hk.2.1.lt, ?_⟩
    rintro w10 rfl
    have q1 := Blk.set (j := 6) (Blk.set (j := 5) hk.2.1 (.int .i64 ((W.laid : Int) + (l.length : Int)))) (.int .i64 ((W.uns : Int) + 1))
    refine ⟨⟨q1.cell 2 _ rfl, q1.cell 6 _ rfl⟩, Nw.behind hb1 (Nw.trans ⟨O2, hk, hk2, hk3⟩ fun O3 q => q.write (W' := W2) (((Tr.set (O := fun x => x = b) rfl _).trans (Tr.set (O := fun x => x = b) rfl _) fun x q => .inl q).trans (Tr.drew (fun x => x = b) _) fun x q => .inl q) ?_)⟩
    rw [hW2]
    exact q1
  have HSY : Hid (∀ w0, ∀ O2, WK w0 b d O2 W2 S2 → Calls Tryz.prog 31 #[.pointer (some ⟨b, 0, none⟩)] w0 fun e w' => e = .returned (.int .i64 ((syR W2 S2).1 : Int)) ∧ Nw O2 w0 b d (syR W2 S2).2.1 (syR W2 S2).2.2 w') := fun w0 O2 q => asyR_is w0 b d O2 W2 S2 q (by omega) (fun _ => by rw [hW2]; exact hnu)
  rw [← hW2] at hly
  have HX : Hid ((r ≠ 0 → ly W S l = (r, shut r W, S2)) ∧ (r = 0 → (W.evy = 0 ∨ W.uns + 1 < W.evy) → ly W S l = (0, W2, S2)) ∧ (r = 0 → ¬ (W.evy = 0 ∨ W.uns + 1 < W.evy) → ly W S l = syR W2 S2)) := ⟨fun q => by rw [hly, if_pos q], fun q q2 => by rw [hly, if_neg (by omega), if_pos q2], fun q q2 => by rw [hly, if_neg (by omega), if_neg q2]⟩
  generalize ly W S l = X at HX ⊢
  clear hw1 hx1 hy1 hW2 h hI hn hr hS2 hly hb1 hnu
  go_enter Tryz.func30, Tryz.ntmps30
  go_wp2_with fail
  --REGION la
  refine region_two (fun i => match i with
    | 0 => Value.pointer (some { block := b, off := 0 })
    | 1 => Value.slice ua l.length c
    | 2 => Value.pointer (some { block := b, off := 0 })
    | 3 => Value.pointer (some { block := b, off := 0 })
    | 4 => .pointer (some ⟨b, 0, none⟩)
    | 5 => .pointer (some ⟨d, 0, none⟩)
    | 6 => .func (.func 57) #[.pointer (some ⟨d, 0, none⟩)] #[]
    | 7 => .func (.func 86) #[] #[.pointer (some ⟨w.heap.size + 1, 0, none⟩), .pointer (some ⟨w.heap.size, 0, none⟩)]
    | 8 => Value.pointer (some { block := b, off := 0 })
    | 9 => Value.pointer (some { block := b, off := 0 })
    | 10 => .pointer (some ⟨b, 4, none⟩)
    | 11 => .int .u32 (W.num : Int)
    | 12 => undef
    | 13 => undef
    | _ => undef) 7 12 13 18 w1 (fun v w9 => v = Value.int .i64 (r : Int) ∧ Nw O w1 b d (shut r W) S2 w9) hmx (by kernel_rfl) (by kernel_rfl) (by kernel_rfl) (by kernel_rfl) (by decide) (by kernel_rfl) (by decide) (by decide) rfl ?_ ?_ ?_ ?_
  · intro i o hiE hiC ho a w9 hiM hw9 hout haf
    have ee0 := getq (show a.tmps.getD 0 undef = Value.pointer (some { block := b, off := 0 }) from hout 0 (notDst_spec (by kernel_rfl)))
    have ee1 := getq (show a.tmps.getD 1 undef = Value.slice ua l.length c from hout 1 (notDst_spec (by kernel_rfl)))
    clear hout
    match i, hiE, hiC, hiM, ho, haf with
    | 0, hiE, hiC, hiM, ho, haf =>
      obtain rfl := Option.some.inj ho
      refine step_c (w' := w9) rfl fun K hK => ?_
      simp only [List.getElem_toArray, List.getElem_cons_zero] at hK ⊢
      clear haf ho hiE hiC hiM
      go_simp
      exact hK
    | 1, hiE, hiC, hiM, ho, haf =>
      obtain rfl := Option.some.inj ho
      refine step_c (w' := w9) rfl fun K hK => ?_
      simp only [List.getElem_toArray, List.getElem_cons_succ, List.getElem_cons_zero] at hK ⊢
      clear haf ho hiE hiC hiM
      go_simp
      exact hK
    | 2, hiE, hiC, hiM, ho, haf =>
      obtain rfl := Option.some.inj ho
      refine step_c (w' := w9) rfl fun K hK => ?_
      simp only [List.getElem_toArray, List.getElem_cons_succ, List.getElem_cons_zero] at hK ⊢
      clear haf ho hiE hiC hiM
      go_simp
      exact hK
    | 3, hiE, hiC, hiM, ho, haf =>
      obtain rfl := Option.some.inj ho
      have f2 := getq (show a.tmps.getD 8 undef = Value.pointer (some { block := b, off := 0 }) from haf ⟨2, .data⟩ (by simp) rfl (by decide) 8 rfl)
      refine step_c (w' := w9) rfl fun K hK => ?_
      simp only [List.getElem_toArray, List.getElem_cons_succ, List.getElem_cons_zero] at hK ⊢
      clear haf ho hiE hiC hiM
      go_simp
      exact hK
    | 4, hiE, hiC, hiM, ho, haf =>
      obtain rfl := Option.some.inj ho
      have f3 := getq (show a.tmps.getD 9 undef = Value.pointer (some { block := b, off := 0 }) from haf ⟨3, .data⟩ (by simp) rfl (by decide) 9 rfl)
      refine step_c (w' := w9) rfl fun K hK => ?_
      simp only [List.getElem_toArray, List.getElem_cons_succ, List.getElem_cons_zero] at hK ⊢
      clear haf ho hiE hiC hiM
      go_simp
      exact hK
    | 5, hiE, hiC, hiM, ho, haf =>
      obtain rfl := Option.some.inj ho
      have f4 := getq (show a.tmps.getD 10 undef = .pointer (some ⟨b, 0, none⟩) from haf ⟨4, .data⟩ (by simp) rfl (by decide) 10 rfl)
      refine step_c (w' := w9) rfl fun K hK => ?_
      simp only [List.getElem_toArray, List.getElem_cons_succ, List.getElem_cons_zero] at hK ⊢
      clear haf ho hiE hiC hiM
      have hc := (RC.out w9 hw9).1
      go_simp
      exact hK
    | 6, hiE, hiC, hiM, ho, haf =>
      obtain rfl := Option.some.inj ho
      have f5 := getq (show a.tmps.getD 11 undef = .pointer (some ⟨d, 0, none⟩) from haf ⟨5, .data⟩ (by simp) rfl (by decide) 11 rfl)
      refine step_c (w' := w9) rfl fun K hK => ?_
      simp only [List.getElem_toArray, List.getElem_cons_succ, List.getElem_cons_zero] at hK ⊢
      clear haf ho hiE hiC hiM
      go_simp
      exact hK
    | 7, _, _, hiM, _, _ => exact absurd rfl hiM
    | 8, hiE, hiC, hiM, ho, haf =>
      obtain rfl := Option.some.inj ho
      refine step_c (w' := w9) rfl fun K hK => ?_
      simp only [List.getElem_toArray, List.getElem_cons_succ, List.getElem_cons_zero] at hK ⊢
      clear haf ho hiE hiC hiM
      go_simp
      exact hK
    | 9, hiE, hiC, hiM, ho, haf =>
      obtain rfl := Option.some.inj ho
      have f8 := getq (show a.tmps.getD 14 undef = Value.pointer (some { block := b, off := 0 }) from haf ⟨8, .data⟩ (by simp) rfl (by decide) 14 rfl)
      refine step_c (w' := w9) rfl fun K hK => ?_
      simp only [List.getElem_toArray, List.getElem_cons_succ, List.getElem_cons_zero] at hK ⊢
      clear haf ho hiE hiC hiM
      go_simp
      exact hK
    | 10, hiE, hiC, hiM, ho, haf =>
      obtain rfl := Option.some.inj ho
      have f9 := getq (show a.tmps.getD 15 undef = Value.pointer (some { block := b, off := 0 }) from haf ⟨9, .data⟩ (by simp) rfl (by decide) 15 rfl)
      refine step_c (w' := w9) rfl fun K hK => ?_
      simp only [List.getElem_toArray, List.getElem_cons_succ, List.getElem_cons_zero] at hK ⊢
      clear haf ho hiE hiC hiM
      go_simp
      exact hK
    | 11, hiE, hiC, hiM, ho, haf =>
      obtain rfl := Option.some.inj ho
      have f10 := getq (show a.tmps.getD 16 undef = .pointer (some ⟨b, 4, none⟩) from haf ⟨10, .data⟩ (by simp) rfl (by decide) 16 rfl)
      refine step_c (w' := w9) rfl fun K hK => ?_
      simp only [List.getElem_toArray, List.getElem_cons_succ, List.getElem_cons_zero] at hK ⊢
      clear haf ho hiE hiC hiM
      have hc := (RC.out w9 hw9).2
      go_simp
      exact hK
    | 12, _, hiC, _, _, _ => exact absurd rfl hiC
    | 13, hiE, _, _, _, _ => exact absurd rfl hiE
    | n + 14, _, _, _, ho, _ => simp at ho
  · intro o ho a hout haf
    have ee0 := getq (show a.tmps.getD 0 undef = Value.pointer (some { block := b, off := 0 }) from hout 0 (notDst_spec (by kernel_rfl)))
    have ee1 := getq (show a.tmps.getD 1 undef = Value.slice ua l.length c from hout 1 (notDst_spec (by kernel_rfl)))
    obtain rfl := Option.some.inj ho
    have f1 := getq (show a.tmps.getD 7 undef = Value.slice ua l.length c from haf ⟨1, .data⟩ (by simp) rfl (by decide) 7 rfl)
    have f6 := getq (show a.tmps.getD 12 undef = .func (.func 57) #[.pointer (some ⟨d, 0, none⟩)] #[] from haf ⟨6, .data⟩ (by simp) rfl (by decide) 12 rfl)
    clear haf ho hout
    simp only [List.getElem_toArray, List.getElem_cons_succ, List.getElem_cons_zero]
    go_simp
    refine Calls.mono HWI.out ?_
    rintro e9 w9 ⟨rfl, rfl⟩
    exact ⟨rfl, HW1.out.symm⟩
  · intro o ho a hout haf
    have ee0 := getq (show a.tmps.getD 0 undef = Value.pointer (some { block := b, off := 0 }) from hout 0 (notDst_spec (by kernel_rfl)))
    have ee1 := getq (show a.tmps.getD 1 undef = Value.slice ua l.length c from hout 1 (notDst_spec (by kernel_rfl)))
    obtain rfl := Option.some.inj ho
    have f0 := getq (show a.tmps.getD 6 undef = Value.pointer (some { block := b, off := 0 }) from haf ⟨0, .data⟩ (by simp) rfl (by decide) 6 rfl)
    have f7 := getq (show a.tmps.getD 13 undef = .func (.func 86) #[] #[.pointer (some ⟨w.heap.size + 1, 0, none⟩), .pointer (some ⟨w.heap.size, 0, none⟩)] from haf ⟨7, .data⟩ (by simp) rfl (by decide) 13 rfl)
    have f11 := getq (show a.tmps.getD 17 undef = .int .u32 (W.num : Int) from haf ⟨11, .data⟩ (by simp) rfl (by decide) 17 rfl)
    clear haf ho hout
    simp only [List.getElem_toArray, List.getElem_cons_succ, List.getElem_cons_zero]
    go_simp
    refine Calls.mono HA.out ?_
    rintro e9 w9 ⟨rfl, hN9⟩
    exact ⟨_, rfl, rfl, hN9⟩
  · intro o ho aa w9 v9 hR9 hdf hsz hout hval hvC hown
    obtain rfl := Option.some.inj ho
    have hat : aa.tmps = #[Value.pointer (some { block := b, off := 0 }), Value.slice ua l.length c, undef, undef, Value.int IntKind.i64 0, undef, Value.pointer (some { block := b, off := 0 }), Value.slice ua l.length c, Value.pointer (some { block := b, off := 0 }), Value.pointer (some { block := b, off := 0 }), .pointer (some ⟨b, 0, none⟩), .pointer (some ⟨d, 0, none⟩), .func (.func 57) #[.pointer (some ⟨d, 0, none⟩)] #[], .func (.func 86) #[] #[.pointer (some ⟨w.heap.size + 1, 0, none⟩), .pointer (some ⟨w.heap.size, 0, none⟩)], Value.pointer (some { block := b, off := 0 }), Value.pointer (some { block := b, off := 0 }), .pointer (some ⟨b, 4, none⟩), .int .u32 (W.num : Int), v9, undef, undef, undef, undef, undef, undef, undef, undef, undef, undef, undef, undef, undef, undef, undef, undef, undef, undef, undef, undef, undef, undef, undef, undef, undef, undef, undef, undef, undef, undef, undef, undef, undef, undef, undef, undef, undef] := by
      refine arr_one (hsz.trans rfl) fun kk hkk => ?_
      match kk, hkk with
      | 0, _ => exact hout 0 (notDst_spec (by kernel_rfl))
      | 1, _ => exact hout 1 (notDst_spec (by kernel_rfl))
      | 2, _ => exact hout 2 (notDst_spec (by kernel_rfl))
      | 3, _ => exact hout 3 (notDst_spec (by kernel_rfl))
      | 4, _ => exact hout 4 (notDst_spec (by kernel_rfl))
      | 5, _ => exact hown 5 rfl
      | 6, _ => exact hval 0 6 (by decide) (by decide) (by decide) rfl
      | 7, _ => exact hval 1 7 (by decide) (by decide) (by decide) rfl
      | 8, _ => exact hval 2 8 (by decide) (by decide) (by decide) rfl
      | 9, _ => exact hval 3 9 (by decide) (by decide) (by decide) rfl
      | 10, _ => exact hval 4 10 (by decide) (by decide) (by decide) rfl
      | 11, _ => exact hval 5 11 (by decide) (by decide) (by decide) rfl
      | 12, _ => exact hval 6 12 (by decide) (by decide) (by decide) rfl
      | 13, _ => exact hval 7 13 (by decide) (by decide) (by decide) rfl
      | 14, _ => exact hval 8 14 (by decide) (by decide) (by decide) rfl
      | 15, _ => exact hval 9 15 (by decide) (by decide) (by decide) rfl
      | 16, _ => exact hval 10 16 (by decide) (by decide) (by decide) rfl
      | 17, _ => exact hval 11 17 (by decide) (by decide) (by decide) rfl
      | 18, _ => exact hvC
      | 19, _ => exact hout 19 (notDst_spec (by kernel_rfl))
      | 20, _ => exact hout 20 (notDst_spec (by kernel_rfl))
      | 21, _ => exact hout 21 (notDst_spec (by kernel_rfl))
      | 22, _ => exact hout 22 (notDst_spec (by kernel_rfl))
      | 23, _ => exact hout 23 (notDst_spec (by kernel_rfl))
      | 24, _ => exact hout 24 (notDst_spec (by kernel_rfl))
      | 25, _ => exact hout 25 (notDst_spec (by kernel_rfl))
      | 26, _ => exact hout 26 (notDst_spec (by kernel_rfl))
      | 27, _ => exact hout 27 (notDst_spec (by kernel_rfl))
      | 28, _ => exact hout 28 (notDst_spec (by kernel_rfl))
      | 29, _ => exact hout 29 (notDst_spec (by kernel_rfl))
      | 30, _ => exact hout 30 (notDst_spec (by kernel_rfl))
      | 31, _ => exact hout 31 (notDst_spec (by kernel_rfl))
      | 32, _ => exact hout 32 (notDst_spec (by kernel_rfl))
      | 33, _ => exact hout 33 (notDst_spec (by kernel_rfl))
      | 34, _ => exact hout 34 (notDst_spec (by kernel_rfl))
      | 35, _ => exact hout 35 (notDst_spec (by kernel_rfl))
      | 36, _ => exact hout 36 (notDst_spec (by kernel_rfl))
      | 37, _ => exact hout 37 (notDst_spec (by kernel_rfl))
      | 38, _ => exact hout 38 (notDst_spec (by kernel_rfl))
      | 39, _ => exact hout 39 (notDst_spec (by kernel_rfl))
      | 40, _ => exact hout 40 (notDst_spec (by kernel_rfl))
      | 41, _ => exact hout 41 (notDst_spec (by kernel_rfl))
      | 42, _ => exact hout 42 (notDst_spec (by kernel_rfl))
      | 43, _ => exact hout 43 (notDst_spec (by kernel_rfl))
      | 44, _ => exact hout 44 (notDst_spec (by kernel_rfl))
      | 45, _ => exact hout 45 (notDst_spec (by kernel_rfl))
      | 46, _ => exact hout 46 (notDst_spec (by kernel_rfl))
      | 47, _ => exact hout 47 (notDst_spec (by kernel_rfl))
      | 48, _ => exact hout 48 (notDst_spec (by kernel_rfl))
      | 49, _ => exact hout 49 (notDst_spec (by kernel_rfl))
      | 50, _ => exact hout 50 (notDst_spec (by kernel_rfl))
      | 51, _ => exact hout 51 (notDst_spec (by kernel_rfl))
      | 52, _ => exact hout 52 (notDst_spec (by kernel_rfl))
      | 53, _ => exact hout 53 (notDst_spec (by kernel_rfl))
      | 54, _ => exact hout 54 (notDst_spec (by kernel_rfl))
      | 55, _ => exact hout 55 (notDst_spec (by kernel_rfl))
      | n + 56, h => exact absurd h (by simp)
    obtain ⟨tt, dd⟩ := aa
    simp only at hat hdf
    subst hat hdf
    clear hsz hout hval hown ho hvC
    simp only [List.getElem_toArray, List.getElem_cons_succ, List.getElem_cons_zero]
    obtain ⟨rfl, hN9⟩ := hR9
    obtain ⟨hA9, hB9⟩ := HZ.out w9 hN9
    have HA9 := hd hA9
    clear hN9 hA9
    by_cases hz : r = 0
    · subst hz
      obtain ⟨k5, k6, k2, g5, g6, hlt, k4⟩ := hB9 rfl
      have HK4 := hd k4
      clear hB9 k4
      go_simp
      go_wp2_with fail
      obtain ⟨w10, hw10⟩ : ∃ w10, w10 = (w9.setCell ⟨b, 5, none⟩ (.int .i64 ((W.laid : Int) + (l.length : Int)))).setCell ⟨b, 6, none⟩ (.int .i64 ((W.uns : Int) + 1)) := ⟨_, rfl⟩
      obtain ⟨⟨hm2, hm6⟩, hN10⟩ := HK4.out w10 hw10
      have m2 := hd hm2
      have m6 := hd hm6
      have HN10 := hd hN10
      rw [← hw10]
      clear hm2 hm6 hN10 hw10 k5 k6 k2 g5 g6 hlt
      by_cases he : W.evy = 0
      · have he0 := hd he
        rw [show (W.evy : Int) = 0 by omega] at m2
        clear he
        refine region_skip (fun i9 v9 _ => match i9 with
          | 0 => v9 = Value.pointer (some { block := b, off := 0 })
          | 1 => v9 = Value.pointer (some { block := b, off := 0 })
          | 2 => v9 = .pointer (some ⟨b, 2, none⟩)
          | 3 => v9 = .int .i64 0
          | 4 => v9 = .bool true
          | 5 => v9 = .bool true
          | 6 => v9 = undef
          | 7 => v9 = undef
          | 8 => v9 = undef
          | 9 => v9 = undef
          | 10 => v9 = undef
          | 11 => v9 = undef
          | 12 => v9 = undef
          | 13 => v9 = undef
          | 14 => v9 = undef
          | _ => v9 = .bool true) (fun w => w = w10.drew) hmx (by kernel_rfl) (by kernel_rfl) rfl ?_ ?_ ?_
        · intro i9 v9 w8 w9 _ _ hb hG
          match i9, hG with
          | 0, h => exact h
          | 1, h => exact h
          | 2, h => exact h
          | 3, h => exact h
          | 4, h => exact h
          | 5, h => exact h
          | 6, h => exact h
          | 7, h => exact h
          | 8, h => exact h
          | 9, h => exact h
          | 10, h => exact h
          | 11, h => exact h
          | 12, h => exact h
          | 13, h => exact h
          | 14, h => exact h
          | n + 15, h => exact h
        · intro i9 o9 ho a9 w9 hW hdf hsz hout haf
          have ee0 := getq (show a9.tmps.getD 0 undef = Value.pointer (some { block := b, off := 0 }) from hout 0 (notDst_spec (by kernel_rfl)))
          have hsz2 : a9.tmps.size = 56 := hsz
          clear hout hsz hdf
          match i9, ho, haf with
          | 0, ho, haf =>
            obtain rfl := Option.some.inj ho
            refine skip_good _ (wanted_none rfl) ?_
            clear haf ho hsz2
            intro K hK
            simp only [List.getElem_toArray, List.getElem_cons_zero] at hK ⊢
            obtain rfl := hW
            go_simp
            exact hK _ _ ⟨Below.refl _ _, rfl, rfl⟩
          | 1, ho, haf =>
            obtain rfl := Option.some.inj ho
            have f0 := getq (show a9.tmps.getD 38 undef = Value.pointer (some { block := b, off := 0 }) from haf ⟨0, .data⟩ (by simp) rfl)
            refine skip_good _ (wanted_none rfl) ?_
            clear haf ho hsz2
            intro K hK
            simp only [List.getElem_toArray, List.getElem_cons_succ, List.getElem_cons_zero] at hK ⊢
            obtain rfl := hW
            go_simp
            exact hK _ _ ⟨Below.refl _ _, rfl, rfl⟩
          | 2, ho, haf =>
            obtain rfl := Option.some.inj ho
            have f1 := getq (show a9.tmps.getD 39 undef = Value.pointer (some { block := b, off := 0 }) from haf ⟨1, .data⟩ (by simp) rfl)
            refine skip_good _ (wanted_none rfl) ?_
            clear haf ho hsz2
            intro K hK
            simp only [List.getElem_toArray, List.getElem_cons_succ, List.getElem_cons_zero] at hK ⊢
            obtain rfl := hW
            go_simp
            exact hK _ _ ⟨Below.refl _ _, rfl, rfl⟩
          | 3, ho, haf =>
            obtain rfl := Option.some.inj ho
            have f2 := getq (show a9.tmps.getD 40 undef = .pointer (some ⟨b, 2, none⟩) from haf ⟨2, .data⟩ (by simp) rfl)
            refine skip_good _ (wanted_none rfl) ?_
            clear haf ho hsz2
            intro K hK
            simp only [List.getElem_toArray, List.getElem_cons_succ, List.getElem_cons_zero] at hK ⊢
            obtain rfl := hW
            have hc := m2.out
            go_simp
            exact hK _ _ ⟨Below.refl _ _, rfl, rfl⟩
          | 4, ho, haf =>
            obtain rfl := Option.some.inj ho
            have f3 := getq (show a9.tmps.getD 41 undef = .int .i64 0 from haf ⟨3, .data⟩ (by simp) rfl)
            refine skip_good _ (wanted_none rfl) ?_
            clear haf ho hsz2
            intro K hK
            simp only [List.getElem_toArray, List.getElem_cons_succ, List.getElem_cons_zero] at hK ⊢
            obtain rfl := hW
            go_simp
            exact hK _ _ ⟨Below.refl _ _, rfl, rfl⟩
          | 5, ho, haf =>
            obtain rfl := Option.some.inj ho
            have f4 := getq (show a9.tmps.getD 42 undef = .bool true from haf ⟨4, .data⟩ (by simp) rfl)
            refine skip_good _ (wanted_none rfl) ?_
            clear haf ho hsz2
            intro K hK
            simp only [List.getElem_toArray, List.getElem_cons_succ, List.getElem_cons_zero] at hK ⊢
            obtain rfl := hW
            go_simp
            exact hK _ _ ⟨Below.refl _ _, rfl, rfl⟩
          | 6, ho, haf =>
            obtain rfl := Option.some.inj ho
            have gg : a9.tmps.getD 43 undef = .bool true := haf ⟨5, .guard⟩ (by simp) rfl
            exact skip_no (b := true) rfl (yielded_of (d := 43) rfl (by omega) gg) rfl
          | 7, ho, haf =>
            obtain rfl := Option.some.inj ho
            have gg : a9.tmps.getD 43 undef = .bool true := haf ⟨5, .guard⟩ (by simp) rfl
            exact skip_no (b := true) rfl (yielded_of (d := 43) rfl (by omega) gg) rfl
          | 8, ho, haf =>
            obtain rfl := Option.some.inj ho
            have gg : a9.tmps.getD 43 undef = .bool true := haf ⟨5, .guard⟩ (by simp) rfl
            exact skip_no (b := true) rfl (yielded_of (d := 43) rfl (by omega) gg) rfl
          | 9, ho, haf =>
            obtain rfl := Option.some.inj ho
            have gg : a9.tmps.getD 43 undef = .bool true := haf ⟨5, .guard⟩ (by simp) rfl
            exact skip_no (b := true) rfl (yielded_of (d := 43) rfl (by omega) gg) rfl
          | 10, ho, haf =>
            obtain rfl := Option.some.inj ho
            have gg : a9.tmps.getD 43 undef = .bool true := haf ⟨5, .guard⟩ (by simp) rfl
            exact skip_no (b := true) rfl (yielded_of (d := 43) rfl (by omega) gg) rfl
          | 11, ho, haf =>
            obtain rfl := Option.some.inj ho
            have gg : a9.tmps.getD 43 undef = .bool true := haf ⟨5, .guard⟩ (by simp) rfl
            exact skip_no (b := true) rfl (yielded_of (d := 43) rfl (by omega) gg) rfl
          | 12, ho, haf =>
            obtain rfl := Option.some.inj ho
            have gg : a9.tmps.getD 43 undef = .bool true := haf ⟨5, .guard⟩ (by simp) rfl
            exact skip_no (b := true) rfl (yielded_of (d := 43) rfl (by omega) gg) rfl
          | 13, ho, haf =>
            obtain rfl := Option.some.inj ho
            have gg : a9.tmps.getD 43 undef = .bool true := haf ⟨5, .guard⟩ (by simp) rfl
            exact skip_no (b := true) rfl (yielded_of (d := 43) rfl (by omega) gg) rfl
          | 14, ho, haf =>
            obtain rfl := Option.some.inj ho
            have gg : a9.tmps.getD 43 undef = .bool true := haf ⟨5, .guard⟩ (by simp) rfl
            exact skip_no (b := true) rfl (yielded_of (d := 43) rfl (by omega) gg) rfl
          | 15, ho, haf =>
            obtain rfl := Option.some.inj ho
            have f5 := getq (show a9.tmps.getD 43 undef = .bool true from haf ⟨5, .data⟩ (by simp) rfl)
            have f14 := getq (show a9.tmps.getD 52 undef = undef from haf ⟨14, .data⟩ (by simp) rfl)
            refine skip_good _ (wanted_none rfl) ?_
            clear haf ho hsz2
            intro K hK
            simp only [List.getElem_toArray, List.getElem_cons_succ, List.getElem_cons_zero] at hK ⊢
            obtain rfl := hW
            go_simp
            exact hK _ _ ⟨Below.refl _ _, rfl, rfl⟩
          | n + 16, ho, haf => simp at ho
        · intro aa w9 hW hdf hsz hout hall
          have hat : aa.tmps = #[Value.pointer (some { block := b, off := 0 }), Value.slice ua l.length c, undef, undef, Value.int IntKind.i64 0, Value.int IntKind.i64 0, Value.pointer (some { block := b, off := 0 }), Value.slice ua l.length c, Value.pointer (some { block := b, off := 0 }), Value.pointer (some { block := b, off := 0 }), Value.pointer (some { block := b, off := 0 }), Value.pointer (some { block := d, off := 0 }), Value.func (Fn.func 57) #[Value.pointer (some { block := d, off := 0 })] #[], Value.func (Fn.func 86) #[] #[Value.pointer (some { block := w.heap.size + 1, off := 0 }), Value.pointer (some { block := w.heap.size, off := 0 })], Value.pointer (some { block := b, off := 0 }), Value.pointer (some { block := b, off := 0 }), Value.pointer (some { block := b, off := 4 }), Value.int IntKind.u32 (W.num : Int), Value.int IntKind.i64 0, Value.int IntKind.i64 0, Value.bool false, undef, Value.pointer (some { block := b, off := 0 }), Value.pointer (some { block := b, off := 0 }), Value.pointer (some { block := b, off := 5 }), Value.int IntKind.i64 (W.laid : Int), Value.slice ua l.length c, Value.int IntKind.i64 (l.length : Int), Value.int IntKind.i64 ((W.laid : Int) + (l.length : Int)), Value.pointer (some { block := b, off := 0 }), Value.pointer (some { block := b, off := 5 }), Value.pointer (some { block := b, off := 0 }), Value.pointer (some { block := b, off := 0 }), Value.pointer (some { block := b, off := 6 }), Value.int IntKind.i64 (W.uns : Int), Value.int IntKind.i64 ((W.uns : Int) + 1), Value.pointer (some { block := b, off := 0 }), Value.pointer (some { block := b, off := 6 }), Value.pointer (some { block := b, off := 0 }), Value.pointer (some { block := b, off := 0 }), .pointer (some ⟨b, 2, none⟩), .int .i64 0, .bool true, .bool true, undef, undef, undef, undef, undef, undef, undef, undef, undef, .bool true, undef, undef] := by
            refine arr_one (hsz.trans rfl) fun kk hkk => ?_
            match kk, hkk with
            | 0, _ => exact hout 0 (notDst_spec (by kernel_rfl))
            | 1, _ => exact hout 1 (notDst_spec (by kernel_rfl))
            | 2, _ => exact hout 2 (notDst_spec (by kernel_rfl))
            | 3, _ => exact hout 3 (notDst_spec (by kernel_rfl))
            | 4, _ => exact hout 4 (notDst_spec (by kernel_rfl))
            | 5, _ => exact hout 5 (notDst_spec (by kernel_rfl))
            | 6, _ => exact hout 6 (notDst_spec (by kernel_rfl))
            | 7, _ => exact hout 7 (notDst_spec (by kernel_rfl))
            | 8, _ => exact hout 8 (notDst_spec (by kernel_rfl))
            | 9, _ => exact hout 9 (notDst_spec (by kernel_rfl))
            | 10, _ => exact hout 10 (notDst_spec (by kernel_rfl))
            | 11, _ => exact hout 11 (notDst_spec (by kernel_rfl))
            | 12, _ => exact hout 12 (notDst_spec (by kernel_rfl))
            | 13, _ => exact hout 13 (notDst_spec (by kernel_rfl))
            | 14, _ => exact hout 14 (notDst_spec (by kernel_rfl))
            | 15, _ => exact hout 15 (notDst_spec (by kernel_rfl))
            | 16, _ => exact hout 16 (notDst_spec (by kernel_rfl))
            | 17, _ => exact hout 17 (notDst_spec (by kernel_rfl))
            | 18, _ => exact hout 18 (notDst_spec (by kernel_rfl))
            | 19, _ => exact hout 19 (notDst_spec (by kernel_rfl))
            | 20, _ => exact hout 20 (notDst_spec (by kernel_rfl))
            | 21, _ => exact hout 21 (notDst_spec (by kernel_rfl))
            | 22, _ => exact hout 22 (notDst_spec (by kernel_rfl))
            | 23, _ => exact hout 23 (notDst_spec (by kernel_rfl))
            | 24, _ => exact hout 24 (notDst_spec (by kernel_rfl))
            | 25, _ => exact hout 25 (notDst_spec (by kernel_rfl))
            | 26, _ => exact hout 26 (notDst_spec (by kernel_rfl))
            | 27, _ => exact hout 27 (notDst_spec (by kernel_rfl))
            | 28, _ => exact hout 28 (notDst_spec (by kernel_rfl))
            | 29, _ => exact hout 29 (notDst_spec (by kernel_rfl))
            | 30, _ => exact hout 30 (notDst_spec (by kernel_rfl))
            | 31, _ => exact hout 31 (notDst_spec (by kernel_rfl))
            | 32, _ => exact hout 32 (notDst_spec (by kernel_rfl))
            | 33, _ => exact hout 33 (notDst_spec (by kernel_rfl))
            | 34, _ => exact hout 34 (notDst_spec (by kernel_rfl))
            | 35, _ => exact hout 35 (notDst_spec (by kernel_rfl))
            | 36, _ => exact hout 36 (notDst_spec (by kernel_rfl))
            | 37, _ => exact hout 37 (notDst_spec (by kernel_rfl))
            | 38, _ => exact hall 0 (by decide)
            | 39, _ => exact hall 1 (by decide)
            | 40, _ => exact hall 2 (by decide)
            | 41, _ => exact hall 3 (by decide)
            | 42, _ => exact hall 4 (by decide)
            | 43, _ => exact hall 5 (by decide)
            | 44, _ => exact hall 6 (by decide)
            | 45, _ => exact hall 7 (by decide)
            | 46, _ => exact hall 8 (by decide)
            | 47, _ => exact hall 9 (by decide)
            | 48, _ => exact hall 10 (by decide)
            | 49, _ => exact hall 11 (by decide)
            | 50, _ => exact hall 12 (by decide)
            | 51, _ => exact hall 13 (by decide)
            | 52, _ => exact hall 14 (by decide)
            | 53, _ => exact hall 15 (by decide)
            | 54, _ => exact hout 54 (notDst_spec (by kernel_rfl))
            | 55, _ => exact hout 55 (notDst_spec (by kernel_rfl))
            | n + 56, h => exact absurd h (by simp)
          obtain ⟨tt, dd⟩ := aa
          simp only at hat hdf
          subst hat hdf
          clear hsz hout hall
          obtain rfl := hW
          go_simp
          go_wp2_with fail
          go_ret
          rw [HX.out.2.1 (by first | rfl | trivial) (.inl he0.out)]
          exact ⟨rfl, HN10.out⟩
      · have he0 := hd he
        have hev : Hid (((W.evy : Int) == 0) = false) := by show ((W.evy : Int) == 0) = false; rw [beq_eq_false_iff_ne]; omega
        clear he
        refine region_skip (fun i9 v9 _ => match i9 with
          | 0 => v9 = Value.pointer (some { block := b, off := 0 })
          | 1 => v9 = Value.pointer (some { block := b, off := 0 })
          | 2 => v9 = .pointer (some ⟨b, 2, none⟩)
          | 3 => v9 = .int .i64 (W.evy : Int)
          | 4 => v9 = .bool false
          | 5 => v9 = .bool false
          | 6 => v9 = Value.pointer (some { block := b, off := 0 })
          | 7 => v9 = Value.pointer (some { block := b, off := 0 })
          | 8 => v9 = .pointer (some ⟨b, 6, none⟩)
          | 9 => v9 = .int .i64 ((W.uns : Int) + 1)
          | 10 => v9 = Value.pointer (some { block := b, off := 0 })
          | 11 => v9 = Value.pointer (some { block := b, off := 0 })
          | 12 => v9 = .pointer (some ⟨b, 2, none⟩)
          | 13 => v9 = .int .i64 (W.evy : Int)
          | 14 => v9 = .bool (decide ((W.uns : Int) + 1 < (W.evy : Int)))
          | _ => v9 = .bool (decide ((W.uns : Int) + 1 < (W.evy : Int)))) (fun w => w = w10.drew) hmx (by kernel_rfl) (by kernel_rfl) rfl ?_ ?_ ?_
        · intro i9 v9 w8 w9 _ _ hb hG
          match i9, hG with
          | 0, h => exact h
          | 1, h => exact h
          | 2, h => exact h
          | 3, h => exact h
          | 4, h => exact h
          | 5, h => exact h
          | 6, h => exact h
          | 7, h => exact h
          | 8, h => exact h
          | 9, h => exact h
          | 10, h => exact h
          | 11, h => exact h
          | 12, h => exact h
          | 13, h => exact h
          | 14, h => exact h
          | n + 15, h => exact h
        · intro i9 o9 ho a9 w9 hW hdf hsz hout haf
          have ee0 := getq (show a9.tmps.getD 0 undef = Value.pointer (some { block := b, off := 0 }) from hout 0 (notDst_spec (by kernel_rfl)))
          have hsz2 : a9.tmps.size = 56 := hsz
          clear hout hsz hdf
          match i9, ho, haf with
          | 0, ho, haf =>
            obtain rfl := Option.some.inj ho
            refine skip_good _ (wanted_none rfl) ?_
            clear haf ho hsz2
            intro K hK
            simp only [List.getElem_toArray, List.getElem_cons_zero] at hK ⊢
            obtain rfl := hW
            go_simp
            exact hK _ _ ⟨Below.refl _ _, rfl, rfl⟩
          | 1, ho, haf =>
            obtain rfl := Option.some.inj ho
            have f0 := getq (show a9.tmps.getD 38 undef = Value.pointer (some { block := b, off := 0 }) from haf ⟨0, .data⟩ (by simp) rfl)
            refine skip_good _ (wanted_none rfl) ?_
            clear haf ho hsz2
            intro K hK
            simp only [List.getElem_toArray, List.getElem_cons_succ, List.getElem_cons_zero] at hK ⊢
            obtain rfl := hW
            go_simp
            exact hK _ _ ⟨Below.refl _ _, rfl, rfl⟩
          | 2, ho, haf =>
            obtain rfl := Option.some.inj ho
            have f1 := getq (show a9.tmps.getD 39 undef = Value.pointer (some { block := b, off := 0 }) from haf ⟨1, .data⟩ (by simp) rfl)
            refine skip_good _ (wanted_none rfl) ?_
            clear haf ho hsz2
            intro K hK
            simp only [List.getElem_toArray, List.getElem_cons_succ, List.getElem_cons_zero] at hK ⊢
            obtain rfl := hW
            go_simp
            exact hK _ _ ⟨Below.refl _ _, rfl, rfl⟩
          | 3, ho, haf =>
            obtain rfl := Option.some.inj ho
            have f2 := getq (show a9.tmps.getD 40 undef = .pointer (some ⟨b, 2, none⟩) from haf ⟨2, .data⟩ (by simp) rfl)
            refine skip_good _ (wanted_none rfl) ?_
            clear haf ho hsz2
            intro K hK
            simp only [List.getElem_toArray, List.getElem_cons_succ, List.getElem_cons_zero] at hK ⊢
            obtain rfl := hW
            have hc := m2.out
            go_simp
            exact hK _ _ ⟨Below.refl _ _, rfl, rfl⟩
          | 4, ho, haf =>
            obtain rfl := Option.some.inj ho
            have f3 := getq (show a9.tmps.getD 41 undef = .int .i64 (W.evy : Int) from haf ⟨3, .data⟩ (by simp) rfl)
            refine skip_good _ (wanted_none rfl) ?_
            clear haf ho hsz2
            intro K hK
            simp only [List.getElem_toArray, List.getElem_cons_succ, List.getElem_cons_zero] at hK ⊢
            obtain rfl := hW
            have hc := hev.out
            go_simp
            exact hK _ _ ⟨Below.refl _ _, rfl, rfl⟩
          | 5, ho, haf =>
            obtain rfl := Option.some.inj ho
            have f4 := getq (show a9.tmps.getD 42 undef = .bool false from haf ⟨4, .data⟩ (by simp) rfl)
            refine skip_good _ (wanted_none rfl) ?_
            clear haf ho hsz2
            intro K hK
            simp only [List.getElem_toArray, List.getElem_cons_succ, List.getElem_cons_zero] at hK ⊢
            obtain rfl := hW
            go_simp
            exact hK _ _ ⟨Below.refl _ _, rfl, rfl⟩
          | 6, ho, haf =>
            obtain rfl := Option.some.inj ho
            have gg : a9.tmps.getD 43 undef = .bool false := haf ⟨5, .guard⟩ (by simp) rfl
            refine skip_good _ (wanted_some rfl (yielded_of (d := 43) rfl (by omega) gg)) ?_
            clear haf ho hsz2 gg
            intro K hK
            simp only [List.getElem_toArray, List.getElem_cons_succ, List.getElem_cons_zero] at hK ⊢
            obtain rfl := hW
            go_simp
            exact hK _ _ ⟨Below.refl _ _, rfl, rfl⟩
          | 7, ho, haf =>
            obtain rfl := Option.some.inj ho
            have gg : a9.tmps.getD 43 undef = .bool false := haf ⟨5, .guard⟩ (by simp) rfl
            have f6 := getq (show a9.tmps.getD 44 undef = Value.pointer (some { block := b, off := 0 }) from haf ⟨6, .data⟩ (by simp) rfl)
            refine skip_good _ (wanted_some rfl (yielded_of (d := 43) rfl (by omega) gg)) ?_
            clear haf ho hsz2 gg
            intro K hK
            simp only [List.getElem_toArray, List.getElem_cons_succ, List.getElem_cons_zero] at hK ⊢
            obtain rfl := hW
            go_simp
            exact hK _ _ ⟨Below.refl _ _, rfl, rfl⟩
          | 8, ho, haf =>
            obtain rfl := Option.some.inj ho
            have gg : a9.tmps.getD 43 undef = .bool false := haf ⟨5, .guard⟩ (by simp) rfl
            have f7 := getq (show a9.tmps.getD 45 undef = Value.pointer (some { block := b, off := 0 }) from haf ⟨7, .data⟩ (by simp) rfl)
            refine skip_good _ (wanted_some rfl (yielded_of (d := 43) rfl (by omega) gg)) ?_
            clear haf ho hsz2 gg
            intro K hK
            simp only [List.getElem_toArray, List.getElem_cons_succ, List.getElem_cons_zero] at hK ⊢
            obtain rfl := hW
            go_simp
            exact hK _ _ ⟨Below.refl _ _, rfl, rfl⟩
          | 9, ho, haf =>
            obtain rfl := Option.some.inj ho
            have gg : a9.tmps.getD 43 undef = .bool false := haf ⟨5, .guard⟩ (by simp) rfl
            have f8 := getq (show a9.tmps.getD 46 undef = .pointer (some ⟨b, 6, none⟩) from haf ⟨8, .data⟩ (by simp) rfl)
            refine skip_good _ (wanted_some rfl (yielded_of (d := 43) rfl (by omega) gg)) ?_
            clear haf ho hsz2 gg
            intro K hK
            simp only [List.getElem_toArray, List.getElem_cons_succ, List.getElem_cons_zero] at hK ⊢
            obtain rfl := hW
            have hc := m6.out
            go_simp
            exact hK _ _ ⟨Below.refl _ _, rfl, rfl⟩
          | 10, ho, haf =>
            obtain rfl := Option.some.inj ho
            have gg : a9.tmps.getD 43 undef = .bool false := haf ⟨5, .guard⟩ (by simp) rfl
            refine skip_good _ (wanted_some rfl (yielded_of (d := 43) rfl (by omega) gg)) ?_
            clear haf ho hsz2 gg
            intro K hK
            simp only [List.getElem_toArray, List.getElem_cons_succ, List.getElem_cons_zero] at hK ⊢
            obtain rfl := hW
            go_simp
            exact hK _ _ ⟨Below.refl _ _, rfl, rfl⟩
          | 11, ho, haf =>
            obtain rfl := Option.some.inj ho
            have gg : a9.tmps.getD 43 undef = .bool false := haf ⟨5, .guard⟩ (by simp) rfl
            have f10 := getq (show a9.tmps.getD 48 undef = Value.pointer (some { block := b, off := 0 }) from haf ⟨10, .data⟩ (by simp) rfl)
            refine skip_good _ (wanted_some rfl (yielded_of (d := 43) rfl (by omega) gg)) ?_
            clear haf ho hsz2 gg
            intro K hK
            simp only [List.getElem_toArray, List.getElem_cons_succ, List.getElem_cons_zero] at hK ⊢
            obtain rfl := hW
            go_simp
            exact hK _ _ ⟨Below.refl _ _, rfl, rfl⟩
          | 12, ho, haf =>
            obtain rfl := Option.some.inj ho
            have gg : a9.tmps.getD 43 undef = .bool false := haf ⟨5, .guard⟩ (by simp) rfl
            have f11 := getq (show a9.tmps.getD 49 undef = Value.pointer (some { block := b, off := 0 }) from haf ⟨11, .data⟩ (by simp) rfl)
            refine skip_good _ (wanted_some rfl (yielded_of (d := 43) rfl (by omega) gg)) ?_
            clear haf ho hsz2 gg
            intro K hK
            simp only [List.getElem_toArray, List.getElem_cons_succ, List.getElem_cons_zero] at hK ⊢
            obtain rfl := hW
            go_simp
            exact hK _ _ ⟨Below.refl _ _, rfl, rfl⟩
          | 13, ho, haf =>
            obtain rfl := Option.some.inj ho
            have gg : a9.tmps.getD 43 undef = .bool false := haf ⟨5, .guard⟩ (by simp) rfl
            have f12 := getq (show a9.tmps.getD 50 undef = .pointer (some ⟨b, 2, none⟩) from haf ⟨12, .data⟩ (by simp) rfl)
            refine skip_good _ (wanted_some rfl (yielded_of (d := 43) rfl (by omega) gg)) ?_
            clear haf ho hsz2 gg
            intro K hK
            simp only [List.getElem_toArray, List.getElem_cons_succ, List.getElem_cons_zero] at hK ⊢
            obtain rfl := hW
            have hc := m2.out
            go_simp
            exact hK _ _ ⟨Below.refl _ _, rfl, rfl⟩
          | 14, ho, haf =>
            obtain rfl := Option.some.inj ho
            have gg : a9.tmps.getD 43 undef = .bool false := haf ⟨5, .guard⟩ (by simp) rfl
            have f9 := getq (show a9.tmps.getD 47 undef = .int .i64 ((W.uns : Int) + 1) from haf ⟨9, .data⟩ (by simp) rfl)
            have f13 := getq (show a9.tmps.getD 51 undef = .int .i64 (W.evy : Int) from haf ⟨13, .data⟩ (by simp) rfl)
            refine skip_good _ (wanted_some rfl (yielded_of (d := 43) rfl (by omega) gg)) ?_
            clear haf ho hsz2 gg
            intro K hK
            simp only [List.getElem_toArray, List.getElem_cons_succ, List.getElem_cons_zero] at hK ⊢
            obtain rfl := hW
            go_simp
            exact hK _ _ ⟨Below.refl _ _, rfl, rfl⟩
          | 15, ho, haf =>
            obtain rfl := Option.some.inj ho
            have f5 := getq (show a9.tmps.getD 43 undef = .bool false from haf ⟨5, .data⟩ (by simp) rfl)
            have f14 := getq (show a9.tmps.getD 52 undef = .bool (decide ((W.uns : Int) + 1 < (W.evy : Int))) from haf ⟨14, .data⟩ (by simp) rfl)
            refine skip_good _ (wanted_none rfl) ?_
            clear haf ho hsz2
            intro K hK
            simp only [List.getElem_toArray, List.getElem_cons_succ, List.getElem_cons_zero] at hK ⊢
            obtain rfl := hW
            go_simp
            exact hK _ _ ⟨Below.refl _ _, rfl, rfl⟩
          | n + 16, ho, haf => simp at ho
        · intro aa w9 hW hdf hsz hout hall
          have hat : aa.tmps = #[Value.pointer (some { block := b, off := 0 }), Value.slice ua l.length c, undef, undef, Value.int IntKind.i64 0, Value.int IntKind.i64 0, Value.pointer (some { block := b, off := 0 }), Value.slice ua l.length c, Value.pointer (some { block := b, off := 0 }), Value.pointer (some { block := b, off := 0 }), Value.pointer (some { block := b, off := 0 }), Value.pointer (some { block := d, off := 0 }), Value.func (Fn.func 57) #[Value.pointer (some { block := d, off := 0 })] #[], Value.func (Fn.func 86) #[] #[Value.pointer (some { block := w.heap.size + 1, off := 0 }), Value.pointer (some { block := w.heap.size, off := 0 })], Value.pointer (some { block := b, off := 0 }), Value.pointer (some { block := b, off := 0 }), Value.pointer (some { block := b, off := 4 }), Value.int IntKind.u32 (W.num : Int), Value.int IntKind.i64 0, Value.int IntKind.i64 0, Value.bool false, undef, Value.pointer (some { block := b, off := 0 }), Value.pointer (some { block := b, off := 0 }), Value.pointer (some { block := b, off := 5 }), Value.int IntKind.i64 (W.laid : Int), Value.slice ua l.length c, Value.int IntKind.i64 (l.length : Int), Value.int IntKind.i64 ((W.laid : Int) + (l.length : Int)), Value.pointer (some { block := b, off := 0 }), Value.pointer (some { block := b, off := 5 }), Value.pointer (some { block := b, off := 0 }), Value.pointer (some { block := b, off := 0 }), Value.pointer (some { block := b, off := 6 }), Value.int IntKind.i64 (W.uns : Int), Value.int IntKind.i64 ((W.uns : Int) + 1), Value.pointer (some { block := b, off := 0 }), Value.pointer (some { block := b, off := 6 }), Value.pointer (some { block := b, off := 0 }), Value.pointer (some { block := b, off := 0 }), .pointer (some ⟨b, 2, none⟩), .int .i64 (W.evy : Int), .bool false, .bool false, Value.pointer (some { block := b, off := 0 }), Value.pointer (some { block := b, off := 0 }), .pointer (some ⟨b, 6, none⟩), .int .i64 ((W.uns : Int) + 1), Value.pointer (some { block := b, off := 0 }), Value.pointer (some { block := b, off := 0 }), .pointer (some ⟨b, 2, none⟩), .int .i64 (W.evy : Int), .bool (decide ((W.uns : Int) + 1 < (W.evy : Int))), .bool (decide ((W.uns : Int) + 1 < (W.evy : Int))), undef, undef] := by
            refine arr_one (hsz.trans rfl) fun kk hkk => ?_
            match kk, hkk with
            | 0, _ => exact hout 0 (notDst_spec (by kernel_rfl))
            | 1, _ => exact hout 1 (notDst_spec (by kernel_rfl))
            | 2, _ => exact hout 2 (notDst_spec (by kernel_rfl))
            | 3, _ => exact hout 3 (notDst_spec (by kernel_rfl))
            | 4, _ => exact hout 4 (notDst_spec (by kernel_rfl))
            | 5, _ => exact hout 5 (notDst_spec (by kernel_rfl))
            | 6, _ => exact hout 6 (notDst_spec (by kernel_rfl))
            | 7, _ => exact hout 7 (notDst_spec (by kernel_rfl))
            | 8, _ => exact hout 8 (notDst_spec (by kernel_rfl))
            | 9, _ => exact hout 9 (notDst_spec (by kernel_rfl))
            | 10, _ => exact hout 10 (notDst_spec (by kernel_rfl))
            | 11, _ => exact hout 11 (notDst_spec (by kernel_rfl))
            | 12, _ => exact hout 12 (notDst_spec (by kernel_rfl))
            | 13, _ => exact hout 13 (notDst_spec (by kernel_rfl))
            | 14, _ => exact hout 14 (notDst_spec (by kernel_rfl))
            | 15, _ => exact hout 15 (notDst_spec (by kernel_rfl))
            | 16, _ => exact hout 16 (notDst_spec (by kernel_rfl))
            | 17, _ => exact hout 17 (notDst_spec (by kernel_rfl))
            | 18, _ => exact hout 18 (notDst_spec (by kernel_rfl))
            | 19, _ => exact hout 19 (notDst_spec (by kernel_rfl))
            | 20, _ => exact hout 20 (notDst_spec (by kernel_rfl))
            | 21, _ => exact hout 21 (notDst_spec (by kernel_rfl))
            | 22, _ => exact hout 22 (notDst_spec (by kernel_rfl))
            | 23, _ => exact hout 23 (notDst_spec (by kernel_rfl))
            | 24, _ => exact hout 24 (notDst_spec (by kernel_rfl))
            | 25, _ => exact hout 25 (notDst_spec (by kernel_rfl))
            | 26, _ => exact hout 26 (notDst_spec (by kernel_rfl))
            | 27, _ => exact hout 27 (notDst_spec (by kernel_rfl))
            | 28, _ => exact hout 28 (notDst_spec (by kernel_rfl))
            | 29, _ => exact hout 29 (notDst_spec (by kernel_rfl))
            | 30, _ => exact hout 30 (notDst_spec (by kernel_rfl))
            | 31, _ => exact hout 31 (notDst_spec (by kernel_rfl))
            | 32, _ => exact hout 32 (notDst_spec (by kernel_rfl))
            | 33, _ => exact hout 33 (notDst_spec (by kernel_rfl))
            | 34, _ => exact hout 34 (notDst_spec (by kernel_rfl))
            | 35, _ => exact hout 35 (notDst_spec (by kernel_rfl))
            | 36, _ => exact hout 36 (notDst_spec (by kernel_rfl))
            | 37, _ => exact hout 37 (notDst_spec (by kernel_rfl))
            | 38, _ => exact hall 0 (by decide)
            | 39, _ => exact hall 1 (by decide)
            | 40, _ => exact hall 2 (by decide)
            | 41, _ => exact hall 3 (by decide)
            | 42, _ => exact hall 4 (by decide)
            | 43, _ => exact hall 5 (by decide)
            | 44, _ => exact hall 6 (by decide)
            | 45, _ => exact hall 7 (by decide)
            | 46, _ => exact hall 8 (by decide)
            | 47, _ => exact hall 9 (by decide)
            | 48, _ => exact hall 10 (by decide)
            | 49, _ => exact hall 11 (by decide)
            | 50, _ => exact hall 12 (by decide)
            | 51, _ => exact hall 13 (by decide)
            | 52, _ => exact hall 14 (by decide)
            | 53, _ => exact hall 15 (by decide)
            | 54, _ => exact hout 54 (notDst_spec (by kernel_rfl))
            | 55, _ => exact hout 55 (notDst_spec (by kernel_rfl))
            | n + 56, h => exact absurd h (by simp)
          obtain ⟨tt, dd⟩ := aa
          simp only at hat hdf
          subst hat hdf
          clear hsz hout hall
          obtain rfl := hW
          by_cases hq : (W.uns : Int) + 1 < (W.evy : Int)
          · have hq1 : decide ((W.uns : Int) + 1 < (W.evy : Int)) = true := decide_eq_true hq
            have HQ : Hid (W.uns + 1 < W.evy) := by show W.uns + 1 < W.evy; omega
            rw [hq1]
            clear hq hq1
            go_simp
            go_wp2_with fail
            go_ret
            rw [HX.out.2.1 (by first | rfl | trivial) (.inr HQ.out)]
            exact ⟨rfl, HN10.out⟩
          · have hq1 : decide ((W.uns : Int) + 1 < (W.evy : Int)) = false := decide_eq_false hq
            have HQ : Hid (¬ (W.evy = 0 ∨ W.uns + 1 < W.evy)) := by
              have h1 := he0.out
              show ¬ (W.evy = 0 ∨ W.uns + 1 < W.evy)
              omega
            rw [hq1]
            clear hq hq1
            obtain ⟨O10, hK10, hT10, hO10⟩ := HN10.out
            have HSS := hd (HSY.out _ O10 hK10)
            have HT10 := hd hT10
            have HO10 := hd hO10
            clear hK10 hT10 hO10
            go_simp
            go_wp2_with fail
            refine Calls.mono HSS.out ?_
            rintro e w11 ⟨rfl, hN11⟩
            have HN11 := hd hN11
            clear hN11
            go_wp2_with fail
            go_ret
            rw [HX.out.2.2 (by first | rfl | trivial) HQ.out]
            exact ⟨rfl, Nw.join HT10.out HO10.out HN11.out⟩
    · have z1 : ¬ ((r : Int) = 0) := by omega
      have HZ1 := hd hz
      clear hB9 hz
      go_simp
      go_wp2_with fail
      go_ret
      rw [HX.out.1 HZ1.out]
      exact ⟨rfl, HA9.out⟩
  --END la
end Sg
end Go.Proofs.YtolddolfpnkndaaGreat
