/-
  HINT FILES, PLAINLY (4): records as a segment; its frames, and where each stands.
  THE WALK OF the law's 'same' (are two lists of bytes the same?).
  A REGION THAT DRAWS ITS ORDER, WITHIN A FENCE, by an invariant, with operations that their guards pass over. No condition beyond those that the theorem bears.
-/
import Derived.Test.YtlddogigbodilaaMbl
import Derived.Test.YtlddogigbodilaaMag
import Derived.Test.YtlddogigbodilaaMbh
import Derived.Test.YtlddogigbodilaaMar
namespace Go.Proofs.Ytlddogigbodilaa
namespace Vt
theorem ofR_kindH {r : Rec} (h : rf (ofR r) = 0) : r.kind = 1 ∨ r.kind = 2 := by
  have hk : (ofR r).kind = r.kind := rfl
  unfold rf at h
  by_cases c : (ofR r).kind = 1 ∨ (ofR r).kind = 2
  · exact c
  · rw [if_neg c] at h
    by_cases c3 : (ofR r).kind = 3
    · rw [if_pos c3] at h
      have hz : (ofR r).p.kind = 0 := rfl
      unfold rfP at h
      rw [if_pos (by rw [hz]; decide)] at h
      cases h
    · rw [if_neg c3] at h
      by_cases c4 : (ofR r).kind = 4
      · rw [if_pos c4] at h
        unfold rfE at h
        by_cases x : ¬ onD (ofR r).e.count ∨ ¬ onD (ofR r).e.bytes ∨ ¬ onD (ofR r).e.frames
        · rw [if_pos x] at h; cases h
        · rw [if_neg x] at h
          by_cases y : ofR r ≠ ⟨4, zr, zp, (ofR r).e⟩
          · rw [if_pos y] at h; cases h
          · have e : ofR r = ⟨4, zr, zp, (ofR r).e⟩ := Classical.not_not.1 y
            have e2 : (ofR r).r = zr := by rw [e]
            have e3 : r.kind = 0 := by
              have : (ofR r).r = r := rfl
              rw [← this, e2]; rfl
            rw [hk, e3] at c4
            cases c4
      · rw [if_neg c4] at h; cases h
theorem ofR_wf {r : Rec} (h : r.lsn < 18446744073709551616) : (ofR r).Wf := ⟨h, (by decide : (0 : Nat) < 18446744073709551616), (by decide : (0 : Nat) < 4294967296)⟩
/-- the records that may be -/
noncomputable def okr (rs : List Rec) : List Rec := rs.filter fun r => decide (rf (ofR r) = 0)
/-- as a segment -/
noncomputable def sgb (rs : List Rec) : List Nat := (((okr rs).map ofR).map en).flatten
theorem okr_app (a b : List Rec) : okr (a ++ b) = okr a ++ okr b := List.filter_append ..
theorem sgb_app (a b : List Rec) : sgb (a ++ b) = sgb a ++ sgb b := by unfold sgb; rw [okr_app]; simp
theorem take_snocR {rs : List Rec} {k : Nat} {r : Rec} (h : rs[k]? = some r) : rs.take (k + 1) = rs.take k ++ [r] := by
  rw [List.take_add_one, h]; rfl
theorem okr_yes {rs : List Rec} {k : Nat} {r : Rec} (h : rs[k]? = some r) (hr : rf (ofR r) = 0) : okr (rs.take (k + 1)) = okr (rs.take k) ++ [r] := by
  rw [take_snocR h, okr_app]; simp [okr, hr]
theorem okr_no {rs : List Rec} {k : Nat} {r : Rec} (h : rs[k]? = some r) (hr : rf (ofR r) ≠ 0) : okr (rs.take (k + 1)) = okr (rs.take k) := by
  rw [take_snocR h, okr_app]; simp [okr, hr]
theorem sgb_yes {rs : List Rec} {k : Nat} {r : Rec} (h : rs[k]? = some r) (hr : rf (ofR r) = 0) : sgb (rs.take (k + 1)) = sgb (rs.take k) ++ en (ofR r) := by
  unfold sgb; rw [okr_yes h hr]; simp
theorem sgb_no {rs : List Rec} {k : Nat} {r : Rec} (h : rs[k]? = some r) (hr : rf (ofR r) ≠ 0) : sgb (rs.take (k + 1)) = sgb (rs.take k) := by
  unfold sgb; rw [okr_no h hr]
theorem okr_ok {rs : List Rec} (h : ∀ r ∈ rs, r.lsn < 18446744073709551616) : ∀ f ∈ (okr rs).map ofR, f.Wf ∧ rf f = 0 := by
  intro f hf
  obtain ⟨r, hr, rfl⟩ := List.mem_map.1 hf
  obtain ⟨h1, h2⟩ := List.mem_filter.1 hr
  exact ⟨ofR_wf (h r h1), of_decide_eq_true h2⟩
theorem sgb_byt {rs : List Rec} (h : ∀ r ∈ rs, r.lsn < 18446744073709551616) : Byt (sgb rs) := by
  intro x hx
  obtain ⟨q, hq, hxq⟩ := List.mem_flatten.1 hx
  obtain ⟨f, hf, rfl⟩ := List.mem_map.1 hq
  exact en_bytH (okr_ok h f hf).2 x hxq
theorem sgb_locs {rs : List Rec} (h : ∀ r ∈ rs, r.lsn < 18446744073709551616) : locs 0 (sgb rs) = lay 0 ((okr rs).map ofR) := locs_lay (okr_ok h) (sgb_byt h) 0
theorem sgb_may {rs : List Rec} (h : ∀ r ∈ rs, r.lsn < 18446744073709551616) (hl : (sgb rs).length ≤ 4194304) : May (sgb rs) := by
  refine ⟨hl, lay_cl (okr_ok h) (sgb_byt h), ?_⟩
  intro x hx
  rw [sgb_locs h] at hx
  have : x.2.2 ∈ (lay 0 ((okr rs).map ofR)).map fun x => x.2.2 := List.mem_map_of_mem hx
  rw [lay_snd] at this
  obtain ⟨r, hr, e⟩ := List.mem_map.1 this
  rw [← e]
  have hk := ofR_kindH (of_decide_eq_true (List.mem_filter.1 hr).2)
  unfold isRec
  rw [Bool.or_eq_true, decide_eq_true_eq, decide_eq_true_eq]
  exact hk
theorem sgb_count {rs : List Rec} (h : ∀ r ∈ rs, r.lsn < 18446744073709551616) : (locs 0 (sgb rs)).length = (okr rs).length := by
  have := congrArg List.length (lay_snd ((okr rs).map ofR) 0)
  rw [List.length_map, List.length_map] at this
  rw [sgb_locs h, this]
/-- where the record stands that comes next -/
theorem sgb_at {rs : List Rec} (h : ∀ r ∈ rs, r.lsn < 18446744073709551616) {k : Nat} {r : Rec} (hk : rs[k]? = some r) (hr : rf (ofR r) = 0) : (locs 0 (sgb rs))[(okr (rs.take k)).length]? = some ((sgb (rs.take k)).length, (en (ofR r)).length, ofR r) := by
  have hs : rs = rs.take k ++ ([r] ++ rs.drop (k + 1)) := by
    rw [← List.append_assoc, ← take_snocR hk, List.take_append_drop]
  have e : okr rs = okr (rs.take k) ++ ([r] ++ okr (rs.drop (k + 1))) := by
    have := congrArg okr hs
    rw [okr_app, okr_app] at this
    rw [this]; simp [okr, hr]
  have hl : (lay 0 ((okr (rs.take k)).map ofR)).length = (okr (rs.take k)).length := by
    have := congrArg List.length (lay_snd ((okr (rs.take k)).map ofR) 0)
    rwa [List.length_map, List.length_map] at this
  rw [sgb_locs h, e, List.map_append, lay_app, List.getElem?_append_right (by rw [hl]; exact Nat.le_refl _), hl, Nat.sub_self]
  simp [lay, sgb]
open Classical in
theorem chk_pto {l : List Nat} (hb : Byt l) {x : Lc} (hx : x ∈ locs 0 l) (hr : isRec x.2.2 = true) : chk l (pto x) = true := by
  obtain ⟨h1, h2, h3, h4, h5, h6⟩ := locs_mem hb 0 x hx
  have hd : decF l (x.1 : Int) = (x.2.2, x.2.1, 0) := by
    unfold decF
    rw [if_neg (by omega), Int.toNat_natCast]
    exact h3
  unfold chk
  rw [decide_eq_true_eq]
  have : (pto x).at_ = (x.1 : Int) := rfl
  rw [this, hd]
  exact ⟨rfl, hr, rfl⟩
theorem getD_of {α : Type} {l : List α} {k : Nat} {x d : α} (h : l[k]? = some x) : l.getD k d = x := by rw [List.getD_eq_getElem?_getD, h]; rfl
end Vt
end Go.Proofs.Ytlddogigbodilaa
namespace Go.Proofs.Ytlddogigbodilaa
open Go.RowKit
namespace Vt
set_option maxRecDepth 100000 in
set_option maxHeartbeats 400000 in
theorem ssame_row (ba oa ca bb ob cb : Nat) (la lb : List Nat) (w : World) (hl : la.length = lb.length) (hA : Row w ba oa la) (hB : Row w bb ob lb) (hm : la.length ≤ maxLen) :
    Calls Try.prog 24 #[.slice (some ⟨ba, oa, none⟩) la.length ca, .slice (some ⟨bb, ob, none⟩) la.length cb] w fun e w' => e = .returned (.bool (decide (la = lb))) ∧ ∃ n, w' = w.drewN n := by
  unfold maxLen at hm
  have HA := hd hA
  have HB := hd hB
  have HL := hd hl
  clear hA hB hl
  go_enter Try.func24, Try.ntmps24
  go_wp2
  go_loopw [4, 5] (fun o i wr => ∃ k n : Nat, k ≤ la.length ∧ o = .bool false ∧ i = .int .i64 (k : Int) ∧ wr = w.drewN n ∧ ∀ j, j < k → la.getD j 0 = lb.getD j 0) (fun _ i _ => la.length - (intOf i).toNat)
  case atStart => exact ⟨0, 0, by omega, rfl, rfl, rfl, by intro j hj; omega⟩
  case round =>
    obtain ⟨k, n, hk, rfl, rfl, rfl, he⟩ := hrel
    have HE := hd he
    clear he
    by_cases hlt : k < la.length
    · have ha := HA.out k hlt
      have hb := HB.out k (by rw [← HL.out]; exact hlt)
      by_cases hq : la.getD k 0 = lb.getD k 0
      · have HE2 : Hid (∀ j, j < k + 1 → la.getD j 0 = lb.getD j 0) := by
          intro j hj
          rcases Nat.lt_or_ge j k with h | h
          · exact HE.out j h
          · rw [show j = k by omega]; exact hq
        rw [← hq] at hb
        generalize la.getD k 0 = p at ha hb
        clear hq
        go_wp2
        go_quiet (fail)
        go_wp2
        go_roundw
        case rel => exact ⟨k + 1, _, by omega, rfl, by go_num, rfl, HE2.out⟩
        case measure => simp [intOf]; omega
      · have HNE : Hid (decide (la = lb) = false) := by
          show decide (la = lb) = false
          rw [decide_eq_false_iff_not]; intro e; rw [e] at hq; exact hq rfl
        generalize la.getD k 0 = p at ha hq
        generalize lb.getD k 0 = q at hb hq
        have hpq : ((p : Int) != (q : Int)) = true := by simp; omega
        go_wp2
        go_quiet (fail)
        go_wp2
        go_ret
        exact ⟨by rw [HNE.out]; rfl, drewN2 _ _ _⟩
    · obtain rfl : k = la.length := by omega
      have hy : decide (la = lb) = true := by rw [decide_eq_true_iff]; exact ext_getD HL.out HE.out
      have HY := hd hy
      clear hy
      go_wp2
      go_ret
      exact ⟨by rw [HY.out]; rfl, n, rfl⟩
set_option maxRecDepth 100000 in
set_option maxHeartbeats 400000 in
theorem ssame_nil (a : Option Addr) (c : Nat) (b : Option Addr) (c2 : Nat) (w : World) :
    Calls Try.prog 24 #[.slice a 0 c, .slice b 0 c2] w fun e w' => e = .returned (.bool true) ∧ w' = w := by
  go_enter Try.func24, Try.ntmps24
  go_wp2
  go_loopw [4, 5] (fun o i wr => o = .bool false ∧ i = .int .i64 0 ∧ wr = w) (fun _ _ _ => 0)
  case atStart => exact ⟨rfl, rfl, rfl⟩
  case round =>
    obtain ⟨rfl, rfl, rfl⟩ := hrel
    go_wp2
    go_ret
    exact ⟨rfl, rfl⟩
set_option maxRecDepth 100000 in
set_option maxHeartbeats 400000 in
theorem ssame_unlike (a : Option Addr) (c : Nat) (b : Option Addr) (c2 n m : Nat) (w : World) (h : n ≠ m) :
    Calls Try.prog 24 #[.slice a n c, .slice b m c2] w fun e w' => e = .returned (.bool false) ∧ w' = w := by
  have hne : ((n : Int) != (m : Int)) = true := by simp; omega
  go_enter Try.func24, Try.ntmps24
  go_wp2
  go_ret
  exact ⟨rfl, rfl⟩
theorem ssame_is (va vb : Value) (la lb : List Nat) (w : World) (hA : IsB w va la) (hB : IsB w vb lb) :
    Calls Try.prog 24 #[va, vb] w fun e w' => e = .returned (.bool (decide (la = lb))) ∧ ∃ n, w' = w.drewN n := by
  by_cases hl : la.length = lb.length
  · by_cases h0 : la.length = 0
    · obtain rfl : la = [] := List.length_eq_zero_iff.1 h0
      obtain rfl : lb = [] := List.length_eq_zero_iff.1 (by omega)
      obtain ⟨a, ca, rfl⟩ := hA.shape
      obtain ⟨b, cb, rfl⟩ := hB.shape
      refine (ssame_nil a ca b cb w).mono ?_
      rintro e w' ⟨rfl, rfl⟩
      exact ⟨rfl, 0, rfl⟩
    · obtain ⟨_, hm, ⟨rfl, _⟩ | ⟨ba, oa, ca, rfl, _, _, _, hr⟩⟩ := hA
      · simp at h0
      · obtain ⟨_, _, ⟨rfl, _⟩ | ⟨bb, ob, cb, rfl, _, _, _, hs⟩⟩ := hB
        · simp at hl; simp [hl] at h0
        · rw [← hl]; exact ssame_row ba oa ca bb ob cb la lb w hl hr hs hm
  · obtain ⟨a, ca, rfl⟩ := hA.shape
    obtain ⟨b, cb, rfl⟩ := hB.shape
    refine (ssame_unlike a ca b cb _ _ w hl).mono ?_
    rintro e w' ⟨rfl, rfl⟩
    exact ⟨by rw [decide_eq_false]; intro e; exact hl (by rw [e]), 0, rfl⟩
end Vt
end Go.Proofs.Ytlddogigbodilaa
namespace Go.Proofs.Ytlddogigbodilaa
open Go Go.RowKit
theorem skip_goodIn {F : Fence} {n : Nat} {P : Program} {o : Oper} {a : Act} {w : World} {Q : Exit → Act → World → Prop} {ops : Array Oper} (good : Value → World → Prop) {X : Prop} (hw : Region.wanted o (yielded ops a.tmps) = true)
    (h : ∀ K : Act → World → Prop, (∀ v w', good v w' → K (a.put o.dst v) w') → o.wpIn F n P a w K Q) :
    if Region.wanted o (yielded ops a.tmps) then o.wpIn F n P a w (fun a' w' => ∃ v, a' = a.put o.dst v ∧ good v w') Q else X := by
  rw [if_pos hw]
  exact h _ (fun v w' hg => ⟨v, rfl, hg⟩)
theorem region_skipIn {F : Fence} {n : Nat} {P : Program} {id : Nat} {ops : Array Oper} {Q : Exit → Act → World → Prop} {a0 : Act} {w0 : World} (G : Nat → Value → World → Prop) (W : World → Prop) (hF : ∀ f, F.fn f)
    (hm : P.follows .mixedOrders = true) (hd : dstsApart ops a0.tmps.size = true) (hah : aftersBound ops = true) (hW0 : W w0.drew)
    (stable : ∀ i v w w', W w → W w' → Below w.heap.size w w' → G i v w → G i v w')
    (step : ∀ i o, ops[i]? = some o → ∀ a w, W w → a.defers = a0.defers → a.tmps.size = a0.tmps.size →
      (∀ k, (∀ j, j < ops.size → dstOf ops j ≠ some k) → a.tmps.getD k undef = a0.tmps.getD k undef) →
      (∀ e ∈ o.after, Region.binds .any e = true → G e.on (slotOf ops a e.on) w) →
      (if Region.wanted o (yielded ops a.tmps) then o.wpIn F n P a w (fun a' w' => ∃ v, a' = a.put o.dst v ∧ Below w.heap.size w w' ∧ W w' ∧ G i v w') Q else G i undef w))
    (done : ∀ a w, W w → a.defers = a0.defers → a.tmps.size = a0.tmps.size →
      (∀ k, (∀ j, j < ops.size → dstOf ops j ≠ some k) → a.tmps.getD k undef = a0.tmps.getD k undef) →
      (∀ i, i < ops.size → G i (slotOf ops a i) w) → Q .normal a w) :
    (Code.region id ops true).wpIn F n P Q a0 w0 := by
  refine wpIn_region_any hm ?_
  refine wpAnyIn_inv (fun L a w => L.size = ops.size ∧ W w ∧ a.defers = a0.defers ∧ a.tmps.size = a0.tmps.size ∧
      (∀ k, (∀ j, j < ops.size → dstOf ops j ≠ some k) → a.tmps.getD k undef = a0.tmps.getD k undef) ∧
      (∀ i, i < ops.size → L.getD i false = true → G i (slotOf ops a i) w)) (fun L a w h => h.1) ?_ ?_ _ _ _ _ ?_ ?_
  · rintro L a w i ⟨h1, h2, h3, h4, h5, h6⟩ hi
    obtain ⟨o, ho, hlt, hL, haf⟩ := ready_spec hi
    obtain ⟨d, hdi, hdn, hdj⟩ := dsts_spec hd hlt
    have hod : o.dst = some d := by simpa [dstOf, ho] using hdi
    have hst := step i o ho a w h2 h3 h4 h5 (fun e he hb => h6 e.on (by
      have := haf e he hb
      rcases Nat.lt_or_ge e.on ops.size with h' | h'
      · exact h'
      · rw [Array.getD_eq_getD_getElem?, Array.getElem?_eq_none (by omega)] at this; simp at this) (haf e he hb))
    have fin : ∀ v w', Below w.heap.size w w' → W w' → G i v w' → (L.setIfInBounds i true).size = ops.size ∧ W w' ∧ (a.put o.dst v).defers = a0.defers ∧ (a.put o.dst v).tmps.size = a0.tmps.size ∧
        (∀ k, (∀ j, j < ops.size → dstOf ops j ≠ some k) → (a.put o.dst v).tmps.getD k undef = a0.tmps.getD k undef) ∧
        (∀ j, j < ops.size → (L.setIfInBounds i true).getD j false = true → G j (slotOf ops (a.put o.dst v) j) w') := by
      intro v w' hb hW' hG
      have hda : d < a.tmps.size := by omega
      rw [hod]
      refine ⟨by rw [Array.size_setIfInBounds]; exact h1, hW', by simp only [Act.put]; exact h3, by simp only [Act.put, Array.size_setIfInBounds]; exact h4, ?_, ?_⟩
      · intro k hk
        rw [getD_put _ _ _ _ hda, if_neg (fun e => hk i hlt (by rw [e]; exact hdi))]
        exact h5 k hk
      · intro j hj hLj
        by_cases e : j = i
        · subst e
          unfold slotOf
          rw [hdi, Option.getD_some, getD_put _ _ _ _ hda, if_pos rfl]
          exact hG
        · obtain ⟨dj, hdj1, hdj2, hdj3⟩ := dsts_spec hd hj
          have hne : dj ≠ d := fun e2 => hdj j hj e (by rw [← e2]; exact hdj1)
          unfold slotOf
          rw [hdj1, Option.getD_some, getD_put _ _ _ _ hda, if_neg hne]
          have hLj' : L.getD j false = true := by
            rw [Array.getD_eq_getD_getElem?, Array.getElem?_setIfInBounds_ne (by omega)] at hLj
            rw [Array.getD_eq_getD_getElem?]; exact hLj
          have := h6 j hj hLj'
          unfold slotOf at this
          rw [hdj1, Option.getD_some] at this
          exact stable j _ w w' h2 hW' hb this
    unfold wpOpIn
    rw [ho]
    split at hst
    · rename_i hw
      simp only [hw, if_true]
      refine Oper.wpIn_mono ?_ hst
      rintro a' w' ⟨v, rfl, hb, hW', hG⟩
      exact fin v w' hb hW' hG
    · rename_i hw
      simp only [hw]
      rw [if_neg Bool.false_ne_true]
      exact ⟨fun f _ => hF f, fin undef w (Below.refl _ _) h2 hst⟩
  · rintro L a w ⟨h1, h2, h3, h4, h5, h6⟩ hr
    exact done a w h2 h3 h4 h5 fun i hi => h6 i hi (all_listedB hah h1 hr i hi)
  · refine ⟨by simp, hW0, rfl, rfl, fun _ _ => rfl, fun i hi h => ?_⟩
    rw [Array.getD_eq_getD_getElem?, Array.getElem?_replicate] at h
    simp [hi] at h
  · unfold left
    exact Nat.le_trans (List.countP_le_length) (by simp)
end Go.Proofs.Ytlddogigbodilaa
