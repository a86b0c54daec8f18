/-
  hint.parts; hint.Load: the pointers, and the verdict.
  hint.Load: the pointers, and the verdict.
-/
import Derived.Test.YtnjhbidialngmaaXhbs
namespace Go.Proofs.Ytnjhbidialngmaa
open Go.RowKit Go.Shelf
namespace Vt
attribute [local go_sem] Oper.semAt_some
/-- a fingerprint's cells, of any numbers -/
def prl (n k : Int) (s : Nat) : Array Value := #[.int .i64 n, .int .i64 k, .int .u32 (s : Int)]
theorem results_mid3 {P : Program} {fn : Func} {p q r : Tmp} {ty : TypeId} (h : fn.results = #[.tmp p, .cell q ty, .tmp r]) (tmps : Array Value) (w : World) (g : Nat) (t : TypeId) (cs : Array Value) (fr : Nat × Nat) (d : TypeDesc)
    (hp : tmps.getD q undef = .pointer (some ⟨g, 0, none⟩)) (hg : w.heap[g]? = some (.cells cs t fr))
    (hu : P.underlying ty = some d) (hd : (match d with | .struct _ | .array _ _ => true | _ => false) = true) (hi : (P.info? ty).map (·.size) = some cs.size) :
    (results fn tmps).run P w = .ok (.tuple #[tmps.getD p undef, .agg cs, tmps.getD r undef]) w := by
  have hp' : tmps[q]?.getD undef = .pointer (some ⟨g, 0, none⟩) := by simpa using hp
  simp [results, h, hp', asAddr, run_loadVar_row w g t ty cs fr d hg hu hd hi]
/-- what parts tells -/
def ptsP (o : Option St) (n : Nat) (e : Ending) (w' : World) : Prop := match o with
  | some s => ∃ u, e = .returned (.tuple #[u, .agg (prl s.e.bytes s.e.frames s.e.sum), .bool true]) ∧ JPt w' n u (s.ps.map pvl)
  | none => e = .returned (.tuple #[.slice none 0 0, .agg (prl 0 0 0), .bool false])
set_option maxRecDepth 100000 in
set_option maxHeartbeats 2000000 in
theorem parts_is (v : Value) (l : List Nat) (w : World) (hI : IsB w v l) :
    Calls Try.prog 64 #[v] w fun e w' => ptsP (ldS l) w.heap.size e w' ∧ Below w.heap.size w w' := by
  obtain ⟨a, c, rfl⟩ := hI.shape
  have hbl := hI.1
  have HI := hd hI
  clear hI
  obtain ⟨wA, hwA⟩ : ∃ wA, wA = w.alloc (.cells #[.int .i64 0, .int .i64 0, .int .u32 0] 30) := ⟨_, rfl⟩
  have hsA : wA.heap.size = w.heap.size + 1 := by rw [hwA]; simp
  have hbA : Below w.heap.size w wA := by rw [hwA]; exact (Below.refl _ _).alloc (Nat.le_refl _) _
  have BP := hd (show Blk wA w.heap.size 30 [.int .i64 0, .int .i64 0, .int .u32 0] by rw [hwA]; exact Blk.new w 30 _)
  have HT := hd (through_is (.slice a l.length c) l ((((wA.alloc (.cells #[.slice none 0 0] 65)).alloc (.cells #[.int .i64 0, .int .i64 0, .int .i64 0, .int .u32 0] 32)).alloc (.cells #[.bool false] 4)).alloc (.cells #[.int .i64 0] 3)) 81 #[.pointer (some ⟨wA.heap.size + 2, 0, none⟩), .pointer (some ⟨wA.heap.size + 1, 0, none⟩), .pointer (some ⟨wA.heap.size + 3, 0, none⟩), .pointer (some ⟨wA.heap.size, 0, none⟩)] (PtJ wA.heap.size wA l) (fun pre W => sts (some st0) pre = none ∧ (∃ s, PS wA.heap.size (wA.heap.size + 4) W s) ∧ Below wA.heap.size wA W ∧ wA.heap.size + 4 ≤ W.heap.size) hbl
      (fun pre W W' h hb => h.below hb (Nat.le_refl _)) (fun pre W h => by obtain ⟨_, _, _, h3, _⟩ := h; exact (HI.out.below hbA).below h3) (enters_of Try.func81 (by kernel_rfl) rfl)
      (fun pre x W h hp => (parts1_take wA.heap.size wA (Nat.le_refl _) l hbl pre x W h hp))
      ⟨st0, rfl, ⟨⟨_, (((Boxed.new wA 65 _).alloc _).alloc _).alloc _, jr_nil _ _⟩, ?e1, ?e2, ?e3⟩, ?e4, by simp, by simp, by simp [st0]⟩)
  case e1 =>
    have := Blk.new (wA.alloc (.cells #[.slice none 0 0] 65)) 32 [.int .i64 0, .int .i64 0, .int .i64 0, .int .u32 0]
    rw [World.size_alloc] at this
    exact (this.alloc _).alloc _
  case e2 =>
    have := Boxed.new ((wA.alloc (.cells #[.slice none 0 0] 65)).alloc (.cells #[.int .i64 0, .int .i64 0, .int .i64 0, .int .u32 0] 32)) 4 (.bool false)
    rw [World.size_alloc, World.size_alloc] at this
    exact this.alloc _
  case e3 =>
    have := Boxed.new (((wA.alloc (.cells #[.slice none 0 0] 65)).alloc (.cells #[.int .i64 0, .int .i64 0, .int .i64 0, .int .u32 0] 32)).alloc (.cells #[.bool false] 4)) 3 (.int .i64 0)
    rw [World.size_alloc, World.size_alloc, World.size_alloc] at this
    exact this
  case e4 => exact below_four _ _ _ _ _
  have HBA := hd hbA
  rw [hsA] at HT
  have HWA := hd hwA
  go_enter Try.func64, Try.ntmps64
  go_wp2_with fail
  rw [← HWA.out]
  refine Calls.mono HT.out ?_
  clear HT
  intro e w1 hcase
  obtain ⟨b, s, rfl, hps, hb1, hs1, hfact⟩ : ∃ b s, e = .returned (.bool b) ∧ PS (w.heap.size + 1) (w.heap.size + 1 + 4) w1 s ∧ Below (w.heap.size + 1) wA w1 ∧ w.heap.size + 1 + 4 ≤ w1.heap.size ∧ ((b = true ∧ good s ∧ ldS l = some s) ∨ (¬ (b = true ∧ good s) ∧ ldS l = none)) := by
    rcases hcase with ⟨rfl, hcl, s, hss, hps, hb1, hs1, hpr, hln⟩ | ⟨rfl, ⟨hncl, pre, s, _, hps, hb, hs, _⟩ | ⟨pre, hpp, hnn, ⟨s, hps⟩, hb, hs⟩⟩
    · refine ⟨true, s, rfl, hps, hsA ▸ hb1, hs1, ?_⟩
      unfold ldS
      rw [if_pos hcl, hss]
      by_cases hg : good s
      · exact .inl ⟨rfl, hg, by simp [hg]⟩
      · exact .inr ⟨fun h => hg h.2, by simp [hg]⟩
    · exact ⟨false, s, rfl, hps, hsA ▸ hb, hs, .inr ⟨fun h => (by cases h.1), by unfold ldS; rw [if_neg hncl]⟩⟩
    · refine ⟨false, s, rfl, hps, hb, hs, .inr ⟨fun h => (by cases h.1), ?_⟩⟩
      unfold ldS
      rw [sts_pre hnn hpp]
      split <;> rfl
  have HFA := hd hfact
  have HB1 := hd (HBA.out.trans (hb1.mono (by omega)))
  have BP1 : Hid (Blk w1 w.heap.size 30 [.int .i64 0, .int .i64 0, .int .u32 0]) := (hb1.block w.heap.size (by omega)).trans BP.out
  clear hcase hfact hb1 BP HWA hwA hsA hbA
  obtain ⟨sp, ⟨ec, eb, ef, es⟩, en_, nx_⟩ := s
  obtain ⟨⟨vp, h1, h2⟩, h3, h4, h5⟩ := hps
  simp only [evl] at h3
  simp only at h1 h2 h4 h5
  obtain ⟨av, cv, rfl, hcv⟩ := h2.shape
  rw [List.length_map] at h1 h2 hcv
  have q1 : w1.cell? ⟨w.heap.size + 1, 0, none⟩ = some (.slice av sp.length cv) := h1.cell
  have q4 : w1.cell? ⟨w.heap.size + 1 + 1 + 1, 0, none⟩ = some (.bool en_) := h4.cell
  have q5 : w1.cell? ⟨w.heap.size + 1 + 1 + 1 + 1, 0, none⟩ = some (.int .i64 nx_) := h5.cell
  have c0 := h3.cell 0 _ rfl
  have c1 := h3.cell 1 _ rfl
  have c2 := h3.cell 2 _ rfl
  have c3 := h3.cell 3 _ rfl
  have z0 := BP1.out.cell 0 _ rfl
  have z1 := BP1.out.cell 1 _ rfl
  have z2 := BP1.out.cell 2 _ rfl
  have y0 := BP1.out.frozen 0
  have y1 := BP1.out.frozen 1
  have y2 := BP1.out.frozen 2
  have n0a : ¬ w.heap.size = w1.heap.size := by omega
  have n0b : ¬ w1.heap.size = w.heap.size := by omega
  have n0c : w.heap.size < w1.heap.size := by omega
  have n1a : ¬ w.heap.size + 1 = w1.heap.size := by omega
  have n1b : ¬ w1.heap.size = w.heap.size + 1 := by omega
  have n1c : w.heap.size + 1 < w1.heap.size := by omega
  have n2a : ¬ w.heap.size + 1 + 1 = w1.heap.size := by omega
  have n2b : ¬ w1.heap.size = w.heap.size + 1 + 1 := by omega
  have n2c : w.heap.size + 1 + 1 < w1.heap.size := by omega
  have n3a : ¬ w.heap.size + 1 + 1 + 1 = w1.heap.size := by omega
  have n3b : ¬ w1.heap.size = w.heap.size + 1 + 1 + 1 := by omega
  have n3c : w.heap.size + 1 + 1 + 1 < w1.heap.size := by omega
  have n4a : ¬ w.heap.size + 1 + 1 + 1 + 1 = w1.heap.size := by omega
  have n4b : ¬ w1.heap.size = w.heap.size + 1 + 1 + 1 + 1 := by omega
  have n4c : w.heap.size + 1 + 1 + 1 + 1 < w1.heap.size := by omega
  have H2 := hd h2
  clear h1 h2 h3 h4 h5
  rcases HFA.out with ⟨rfl, ⟨g1, g2, g3, g4⟩, hld⟩ | ⟨hnn, hld⟩
  · have HL := hd hld
    simp only at g1 g2 g3 g4
    subst g1 g2 g3 g4
    clear HFA hld
    go_wp2_with fail
    go_region_with fail
    all_goals
      go_wp2_with fail
      refine bodyPost_ret (results_mid3 rfl _ _ w.heap.size 30 _ (0, 0) _ rfl ((((BP1.out.set (j := 0) (.int .i64 eb)).set (j := 1) (.int .i64 (sp.length : Int))).set (j := 2) (.int .u32 (es : Int))).alloc _) Try.underlying30 rfl (by kernel_rfl)) rfl ?_
      have nb := H2.out.not_blk BP1.out (by decide)
      refine ⟨?_, Below.drew (Below.alloc (((HB1.out.setCell (p := ⟨w.heap.size, 0, none⟩) (Nat.le_refl _) _).setCell (p := ⟨w.heap.size, 1, none⟩) (Nat.le_refl _) _).setCell (p := ⟨w.heap.size, 2, none⟩) (Nat.le_refl _) _) (by simp only [World.setCell, Array.size_modify]; omega) _)⟩
      rw [HL.out]
      refine ⟨_, rfl, ?_⟩
      exact JR.drew (((((H2.out.setO (p := ⟨w.heap.size, 0, none⟩) (fun g hg e => nb (by rw [hg, e])) _).setO (p := ⟨w.heap.size, 1, none⟩) (fun g hg e => nb (by rw [hg, e])) _).setO (p := ⟨w.heap.size, 2, none⟩) (fun g hg e => nb (by rw [hg, e])) _).alloc _).lower (by omega))
  · have HL := hd hld
    have HNN := hd hnn
    clear HFA hld hnn
    cases b with
    | false =>
      go_wp2_with fail
      refine bodyPost_ret (results_mid3 rfl _ _ w.heap.size 30 _ (0, 0) _ rfl ((((BP1.out.set (j := 0) (.int .i64 0)).set (j := 1) (.int .i64 0)).set (j := 2) (.int .u32 0)).alloc _) Try.underlying30 rfl (by kernel_rfl)) rfl ?_
      exact ⟨by rw [HL.out]; rfl, Below.alloc (((HB1.out.setCell (p := ⟨w.heap.size, 0, none⟩) (Nat.le_refl _) _).setCell (p := ⟨w.heap.size, 1, none⟩) (Nat.le_refl _) _).setCell (p := ⟨w.heap.size, 2, none⟩) (Nat.le_refl _) _) (by simp only [World.setCell, Array.size_modify]; omega) _⟩
    | true =>
      cases en_ with
      | false =>
        go_wp2_with fail
        refine bodyPost_ret (results_mid3 rfl _ _ w.heap.size 30 _ (0, 0) _ rfl ((((BP1.out.set (j := 0) (.int .i64 0)).set (j := 1) (.int .i64 0)).set (j := 2) (.int .u32 0)).alloc _) Try.underlying30 rfl (by kernel_rfl)) rfl ?_
        exact ⟨by rw [HL.out]; rfl, Below.alloc (((HB1.out.setCell (p := ⟨w.heap.size, 0, none⟩) (Nat.le_refl _) _).setCell (p := ⟨w.heap.size, 1, none⟩) (Nat.le_refl _) _).setCell (p := ⟨w.heap.size, 2, none⟩) (Nat.le_refl _) _) (by simp only [World.setCell, Array.size_modify]; omega) _⟩
      | true =>
        by_cases k1 : ec = (sp.length : Int)
        · by_cases k2 : ef = (sp.length : Int)
          · have k3 : eb ≠ nx_ := fun e => HNN.out ⟨rfl, rfl, k1, k2, e⟩
            have b1 : (ec != (sp.length : Int)) = false := by simp [k1]
            have b2 : (ef != (sp.length : Int)) = false := by simp [k2]
            have b3 : (eb != nx_) = true := by simp [k3]
            clear k1 k2 k3
            go_wp2_with fail
            refine bodyPost_ret (results_mid3 rfl _ _ w.heap.size 30 _ (0, 0) _ rfl ((((BP1.out.set (j := 0) (.int .i64 0)).set (j := 1) (.int .i64 0)).set (j := 2) (.int .u32 0)).alloc _) Try.underlying30 rfl (by kernel_rfl)) rfl ?_
            exact ⟨by rw [HL.out]; rfl, Below.alloc (((HB1.out.setCell (p := ⟨w.heap.size, 0, none⟩) (Nat.le_refl _) _).setCell (p := ⟨w.heap.size, 1, none⟩) (Nat.le_refl _) _).setCell (p := ⟨w.heap.size, 2, none⟩) (Nat.le_refl _) _) (by simp only [World.setCell, Array.size_modify]; omega) _⟩
          · skip
            have b1 : (ec != (sp.length : Int)) = false := by simp [k1]
            have b2 : (ef != (sp.length : Int)) = true := by simp [k2]
            clear k1 k2
            go_wp2_with fail
            refine bodyPost_ret (results_mid3 rfl _ _ w.heap.size 30 _ (0, 0) _ rfl ((((BP1.out.set (j := 0) (.int .i64 0)).set (j := 1) (.int .i64 0)).set (j := 2) (.int .u32 0)).alloc _) Try.underlying30 rfl (by kernel_rfl)) rfl ?_
            exact ⟨by rw [HL.out]; rfl, Below.alloc (((HB1.out.setCell (p := ⟨w.heap.size, 0, none⟩) (Nat.le_refl _) _).setCell (p := ⟨w.heap.size, 1, none⟩) (Nat.le_refl _) _).setCell (p := ⟨w.heap.size, 2, none⟩) (Nat.le_refl _) _) (by simp only [World.setCell, Array.size_modify]; omega) _⟩
        · skip
          have b1 : (ec != (sp.length : Int)) = true := by simp [k1]
          clear k1
          go_wp2_with fail
          refine bodyPost_ret (results_mid3 rfl _ _ w.heap.size 30 _ (0, 0) _ rfl ((((BP1.out.set (j := 0) (.int .i64 0)).set (j := 1) (.int .i64 0)).set (j := 2) (.int .u32 0)).alloc _) Try.underlying30 rfl (by kernel_rfl)) rfl ?_
          exact ⟨by rw [HL.out]; rfl, Below.alloc (((HB1.out.setCell (p := ⟨w.heap.size, 0, none⟩) (Nat.le_refl _) _).setCell (p := ⟨w.heap.size, 1, none⟩) (Nat.le_refl _) _).setCell (p := ⟨w.heap.size, 2, none⟩) (Nat.le_refl _) _) (by simp only [World.setCell, Array.size_modify]; omega) _⟩
end Vt
end Go.Proofs.Ytnjhbidialngmaa
namespace Go.Proofs.Ytnjhbidialngmaa
open Go.RowKit Go.Shelf
namespace Vt
attribute [local go_sem] Oper.semAt_some
theorem eq_prt (n k : Int) (s : Nat) (w : World) : (Op.equalIn 10000 30 (.agg (prl n k s)) (.agg (prl n k s))).run Try.prog w = .ok true w := by
  unfold prl
  simp [go_sem, Op.eqFields]
theorem ne_prt {n k n' k' : Int} {s s' : Nat} (h : ¬ (n = n' ∧ k = k' ∧ s = s')) (w : World) : (Op.equalIn 10000 30 (.agg (prl n k s)) (.agg (prl n' k' s'))).run Try.prog w = .ok false w := by
  unfold prl
  simp [go_sem, Op.eqFields]
  intro h1 h2 h3
  exact h ⟨h1, h2, by omega⟩
theorem neq_prt_no (n k : Int) (s : Nat) (w : World) : (binOp .neq 30 (.agg (prl n k s)) (.agg (prl n k s))).run Try.prog w = .ok (.bool false) w := by
  rw [run_neq_struct, eq_prt]; rfl
theorem neq_prt_yes {n k n' k' : Int} {s s' : Nat} (h : ¬ (n = n' ∧ k = k' ∧ s = s')) (w : World) : (binOp .neq 30 (.agg (prl n k s)) (.agg (prl n' k' s'))).run Try.prog w = .ok (.bool true) w := by
  rw [run_neq_struct, ne_prt h]; rfl
/-- what Load tells -/
def ldP (o : Option St) (bp fp : Int) (sp : Nat) (n : Nat) (e : Ending) (w' : World) : Prop := match o with
  | some s => (¬ (s.e.bytes = bp ∧ s.e.frames = fp ∧ s.e.sum = sp) ∧ e = .returned (.tuple #[.slice none 0 0, .int .i64 3])) ∨ ((s.e.bytes = bp ∧ s.e.frames = fp ∧ s.e.sum = sp) ∧ ∃ u, e = .returned (.tuple #[u, .int .i64 1]) ∧ JPt w' n u (s.ps.map pvl))
  | none => e = .returned (.tuple #[.slice none 0 0, .int .i64 4])
set_option maxRecDepth 100000 in
set_option maxHeartbeats 2000000 in
theorem load_is (v : Value) (l : List Nat) (bp fp : Int) (sp : Nat) (w : World) (hI : IsB w v l) :
    Calls Try.prog 35 #[v, .agg (prl bp fp sp)] w fun e w' => ldP (ldS l) bp fp sp w.heap.size e w' ∧ Below w.heap.size w w' := by
  have HP : Hid (∀ w', Below w.heap.size w w' → Calls Try.prog 64 #[v] w' fun e w'' => ptsP (ldS l) w'.heap.size e w'' ∧ Below w'.heap.size w' w'') := fun w' h => parts_is v l w' (hI.below h)
  obtain ⟨a, c, rfl⟩ := hI.shape
  clear hI
  generalize ldS l = o at *
  simp only [prl]
  go_enter Try.func35, Try.ntmps35
  go_wp2_with fail
  refine Calls.mono (HP.out _ ((Below.refl _ _).alloc (Nat.le_refl _) _)) ?_
  clear HP
  rintro e w1 ⟨hpt, hb⟩
  have HPW := hd ((Blk.new w 30 _).keep hb)
  have HB := hd (below_alloc1 hb)
  have hsz := hb.size
  rw [World.size_alloc] at hsz
  clear hb
  have p0 := HPW.out.cell 0 _ rfl
  have p1 := HPW.out.cell 1 _ rfl
  have p2 := HPW.out.cell 2 _ rfl
  have n1 : ¬ w.heap.size = w1.heap.size := by omega
  have n2 : ¬ w1.heap.size = w.heap.size := by omega
  have n3 : w.heap.size < w1.heap.size := by omega
  cases o with
  | none =>
    obtain rfl : e = _ := hpt
    simp only [prl]
    go_wp2_with fail
    go_ret2
    exact ⟨rfl, HB.out.alloc HB.out.size _⟩
  | some s =>
    obtain ⟨u, rfl, hj⟩ := hpt
    obtain ⟨sp_, ⟨ec, eb, ef, es⟩, en_, nx_⟩ := s
    simp only [prl] at hj ⊢
    have HJ := hd hj
    clear hj
    by_cases hq : eb = bp ∧ ef = fp ∧ es = sp
    · obtain ⟨rfl, rfl, rfl⟩ := hq
      have heq := neq_prt_no eb ef es
      simp only [prl] at heq
      go_wp2_with fail
      go_ret2
      exact ⟨.inr ⟨⟨rfl, rfl, rfl⟩, _, rfl, (HJ.out.alloc _).lower (by simp)⟩, HB.out.alloc HB.out.size _⟩
    · have heq := neq_prt_yes hq
      simp only [prl] at heq
      have HQ := hd hq
      clear hq
      go_wp2_with fail
      go_ret2
      exact ⟨.inl ⟨HQ.out, rfl⟩, HB.out.alloc HB.out.size _⟩
end Vt
end Go.Proofs.Ytnjhbidialngmaa
