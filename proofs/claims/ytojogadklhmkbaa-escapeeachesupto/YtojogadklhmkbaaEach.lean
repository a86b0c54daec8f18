/-
  THE WALK OF the law's own 'each' (every Each is the document's own, given up early too).
-/
import Derived.Test.YtojogadklhmkbaaE7
import Derived.Test.YtojogadklhmkbaaE8
namespace Go.Proofs.Ytojogadklhmkbaa
open Go.RowKit Go.Shelf
namespace Vt
attribute [local go_sem] Oper.semAt_some
/-- what a round leaves: the two boxes are written, all else lies as it lay -/
theorem each_fin {W w4 : World} {N k : Nat} {b : Bool} {S : Nat → Prop} {v1 v2 : Value} (bn : Boxed W N 3 v1) (bk : Boxed W (N + 1) 4 v2) (hS : KeepS S w4 W) (hN : ¬ S N) (hK : ¬ S (N + 1)) :
    KeepsOthers W ((W.setCell ⟨N + 1, 0, none⟩ (.bool b)).setCell ⟨N, 0, none⟩ (.int .i64 ((k : Int) + 1))) ∧ KeepS S W ((W.setCell ⟨N + 1, 0, none⟩ (.bool b)).setCell ⟨N, 0, none⟩ (.int .i64 ((k : Int) + 1))) ∧ Boxed ((W.setCell ⟨N + 1, 0, none⟩ (.bool b)).setCell ⟨N, 0, none⟩ (.int .i64 ((k : Int) + 1))) N 3 (.int .i64 ((k : Int) + 1)) ∧ Boxed ((W.setCell ⟨N + 1, 0, none⟩ (.bool b)).setCell ⟨N, 0, none⟩ (.int .i64 ((k : Int) + 1))) (N + 1) 4 (.bool b) ∧ KeepS S w4 ((W.setCell ⟨N + 1, 0, none⟩ (.bool b)).setCell ⟨N, 0, none⟩ (.int .i64 ((k : Int) + 1))) := by
  have h1 : KeepS S W ((W.setCell ⟨N + 1, 0, none⟩ (.bool b)).setCell ⟨N, 0, none⟩ (.int .i64 ((k : Int) + 1))) := ((KeepS.refl W).setCell (p := ⟨N + 1, 0, none⟩) hK _).setCell (p := ⟨N, 0, none⟩) hN _
  exact ⟨(KeepsOthers.setCell _ _ _).trans (KeepsOthers.setCell _ _ _), h1, (bn.other (by omega) _).set _, (bk.set _).other (by omega) _, hS.trans h1⟩
set_option maxRecDepth 100000 in
set_option maxHeartbeats 4000000 in
theorem leach_hi (v : Value) (l : List Nat) (z : Int) (w : World) (hI : IsB w v l) (hm : l.length ≤ 1048576) (hz : 1 ≤ z) :
    Calls Try.prog 17 #[v, .int .i64 z] w fun e w' => e = .returned (.bool true) ∧ Below w.heap.size w w' := by
  have HI := hd hI
  obtain ⟨a, c, rfl⟩ := hI.shape
  clear hI
  refine (callsIn_wide (n := 8)).1 ?_
  refine callsIn_of_wp_marks Try.func17 rfl trivial ?_ rfl
  simp only [Try.ntmps17, List.size_toArray, List.length_cons, List.length_nil, Nat.reduceAdd, Nat.reduceSub, Array.replicate_succ, Array.replicate_zero, List.push_toArray, List.append_toArray, List.nil_append, List.cons_append]
  gi_wp2
  obtain ⟨W0, hW0⟩ : ∃ W0, W0 = w.alloc (.cells #[.int .i64 z] 3) := ⟨_, rfl⟩
  have hs0 : W0.heap.size = w.heap.size + 1 := by rw [hW0]; simp
  have hb0 : Below w.heap.size w W0 := by rw [hW0]; exact (Below.refl _ _).alloc (Nat.le_refl _) _
  have BM0 : Hid (Boxed W0 w.heap.size 3 (.int .i64 z)) := by rw [hW0]; exact Boxed.new w 3 _
  rw [← hW0]
  refine ⟨trivial, CallsIn.mono (callsIn_wide.2 (room_is _ l W0 (HI.out.below hb0) (by omega))) ?_⟩
  rintro e w1 ⟨rfl, hj1, hb1⟩
  have HB1 := hd (hb0.trans (hb1.mono hb0.size))
  have BM1 := hd (boxed_below BM0.out BM0.out.lt hb1)
  have HF1 := hd hj1.buf
  have hs1 := hj1.buf.2.2.1
  rw [hs0] at HF1 hs1 ⊢
  clear hW0 hb0 BM0 hj1 hb1 hs0
  gi_wp2
  refine ⟨trivial, CallsIn.mono (callsIn_wide.2 (look_is _ l w1 (HI.out.below HB1.out) hm)) ?_⟩
  rintro e w2 ⟨vP, vQ, rfl, hP2, hQ2, hb2⟩
  have HB2 := hd (HB1.out.trans (hb2.mono HB1.out.size))
  have BM2 := hd (boxed_below BM1.out BM1.out.lt hb2)
  have HF2 := hd (HF1.out.below HF1.out.2.2.1 hb2)
  have hs2 := hb2.size
  have HP2 := hd hP2
  have HQ2 := hd hQ2
  have HPL := hd hP2.blk_lt
  have HQL := hd hQ2.blk_lt
  obtain ⟨aP, cP, eP, hcP⟩ := hP2.shape
  obtain ⟨aQ, cQ, eQ, hcQ⟩ := hQ2.shape
  rw [List.length_map] at eQ hcQ
  obtain ⟨L, hL⟩ : ∃ L, L = (toldB 0 l).length := ⟨_, rfl⟩
  have hLP : (plain l).length = L := by unfold plain; rw [List.length_map, hL]
  have hLl : L ≤ l.length := by rw [hL]; exact toldB_len 0 l
  have HL := hd hL
  rw [← hL] at eQ hcQ
  rw [hLP] at eP hcP
  subst eP eQ
  clear hP2 hQ2 hb2 HB1 BM1 HF1 hL hLP
  have cmA : ∀ o1 o2 o3, (((w2.alloc o1).alloc o2).alloc o3).cell? ⟨w.heap.size, 0, none⟩ = some (.int .i64 z) := fun o1 o2 o3 => (((BM2.out.alloc o1).alloc o2).alloc o3).cell
  have fmA : ∀ o1 o2 o3, (((w2.alloc o1).alloc o2).alloc o3).frozen? ⟨w.heap.size, 0, none⟩ = false := fun o1 o2 o3 => (((BM2.out.alloc o1).alloc o2).alloc o3).frozen
  gi_wp2
  clear cmA fmA
  obtain ⟨W3, hW3⟩ : ∃ W3, W3 = (((w2.alloc (.cells #[.slice aP L cP, .slice aQ L cQ, .int .i64 ((badB 0 l).1 : Int), .int .i64 ((badB 0 l).2 : Int)] 51)).alloc (.cells #[.int .i64 0] 3)).alloc (.cells #[.bool true] 4)) := ⟨_, rfl⟩
  rw [← hW3]
  obtain ⟨W2, hW2⟩ : ∃ W2, W2 = (((w2.alloc (.cells #[.slice aP L cP, .slice aQ L cQ, .int .i64 ((badB 0 l).1 : Int), .int .i64 ((badB 0 l).2 : Int)] 51)).alloc (.cells #[.int .i64 0] 3)).alloc (.cells #[.bool true] 4)) := ⟨_, rfl⟩
  have hsz2 : W2.heap.size = w2.heap.size + 3 := by rw [hW2]; simp
  have hlow : Below w2.heap.size w2 W2 := by rw [hW2]; exact (((Below.refl _ _).alloc (Nat.le_refl _) _).alloc (by simp) _).alloc (by simp; omega) _
  have bo2 : Blk W2 w2.heap.size 51 [.slice aP L cP, .slice aQ L cQ, .int .i64 ((badB 0 l).1 : Int), .int .i64 ((badB 0 l).2 : Int)] := by
    rw [hW2]; exact ((Blk.new w2 51 [.slice aP L cP, .slice aQ L cQ, .int .i64 ((badB 0 l).1 : Int), .int .i64 ((badB 0 l).2 : Int)]).alloc _).alloc _
  have bn2 : Boxed W2 (w2.heap.size + 1) 3 (.int .i64 0) := by
    have := (Boxed.new (w2.alloc (.cells #[.slice aP L cP, .slice aQ L cQ, .int .i64 ((badB 0 l).1 : Int), .int .i64 ((badB 0 l).2 : Int)] 51)) 3 (.int .i64 0)).alloc (.cells #[.bool true] 4)
    rw [World.size_alloc] at this
    rw [hW2]; exact this
  have bk2 : Boxed W2 (w2.heap.size + 1 + 1) 4 (.bool true) := by
    have := Boxed.new ((w2.alloc (.cells #[.slice aP L cP, .slice aQ L cQ, .int .i64 ((badB 0 l).1 : Int), .int .i64 ((badB 0 l).2 : Int)] 51)).alloc (.cells #[.int .i64 0] 3)) 4 (.bool true)
    rw [World.size_alloc, World.size_alloc] at this
    rw [hW2]; exact this
  have hmw : w.heap.size < w2.heap.size := by have := BM2.out.lt; omega
  have hW32 : W3 = W2 := by rw [hW3, hW2]
  rw [← hW32] at hsz2 hlow bo2 bn2 bk2
  have hsz3 := hsz2
  have BM3 := hd (boxed_below BM2.out BM2.out.lt hlow)
  have BO3 := hd bo2
  have BN3 := hd bn2
  have BK3 := hd bk2
  have HF3 := hd (HF2.out.below HF2.out.2.2.1 hlow)
  have HP3 := hd (HP2.out.keepAll hlow)
  have HQ3 := hd (HQ2.out.keepAll hlow)
  have HB3 := hd (HB2.out.trans (hlow.mono HB2.out.size))
  clear hW3 hW2 hW32 hlow bo2 bn2 bk2 hsz2 BM2 HF2 HP2 HQ2 HB2
  refine ⟨trivial, CallsIn.mono (callsIn_wide.2 (each_is _ _ _ W3)) ?_⟩
  rintro e w4 ⟨rfl, hw4⟩
  have hs4 : w4.heap.size = w2.heap.size + 4 := by rw [hw4]; simp; omega
  have hb34 : Below W3.heap.size W3 w4 := by rw [hw4]; exact (Below.refl _ _).alloc (Nat.le_refl _) _
  have BS4 : Hid (Boxed w4 (w2.heap.size + 3) 22 (.slice (some ⟨w.heap.size + 1, 0, none⟩) l.length (l.length + 8))) := by
    rw [← hsz3, hw4]; exact Boxed.new _ _ _
  have BM4 := hd (boxed_below BM3.out BM3.out.lt hb34)
  have BO4 := hd (BO3.out.keep hb34)
  have BN4 := hd (boxed_below BN3.out BN3.out.lt hb34)
  have BK4 := hd (boxed_below BK3.out BK3.out.lt hb34)
  have HF4 := hd (HF3.out.below HF3.out.2.2.1 hb34)
  have HP4 := hd (HP3.out.keepAll hb34)
  have HQ4 := hd (HQ3.out.keepAll hb34)
  have HB4 := hd (HB3.out.trans (hb34.mono HB3.out.size))
  rw [hsz3]
  clear hw4 hb34 BM3 BO3 BN3 BK3 HF3 HP3 HQ3 HB3
  have hrun : Sem.run Try.prog (binOp BinOp.eql 41 (Value.func (.func 39) #[] #[.pointer (some ⟨w2.heap.size + 3, 0, none⟩)]) Value.nilFunc) w4 = .ok (.bool false) w4 := by kernel_rfl
  gi_wp2
  clear hrun
  obtain ⟨S, hSd⟩ : ∃ S : Nat → Prop, S = fun g => g < w2.heap.size + 4 ∧ g ≠ w2.heap.size + 1 ∧ g ≠ w2.heap.size + 1 + 1 := ⟨_, rfl⟩
  have hSi : ∀ g, g < w2.heap.size + 4 → g ≠ w2.heap.size + 1 → g ≠ w2.heap.size + 1 + 1 → S g := fun g h1 h2 h3 => by rw [hSd]; exact ⟨h1, h2, h3⟩
  have hSlt : ∀ g, S g → g < w2.heap.size + 4 := fun g h => by rw [hSd] at h; exact h.1
  have hSn : ¬ S (w2.heap.size + 1) := fun h => by rw [hSd] at h; exact h.2.1 rfl
  have hSk : ¬ S (w2.heap.size + 1 + 1) := fun h => by rw [hSd] at h; exact h.2.2 rfl
  clear hSd
  have HSI := hd hSi
  have HSN := hd hSn
  have HSK := hd hSk
  have HSLT := hd hSlt
  have hlmem := lent_isB HF4.out
  have hseq := each_stops 7 (by omega) S (w2.heap.size + 3) _ l w4 (hSi _ (by omega) (by omega) (by omega)) (by omega) BS4.out.cell hlmem (by
    intro b off cc _ e
    injection e with e1 e2 e3
    injection e1 with e1
    injection e1 with e1
    exact hSi _ (by omega) (by omega) (by omega))
  clear hlmem
  refine wpIn_rangeFunc_ownF rfl (by omega) (gf := 39) (lb := #[.pointer (some ⟨w2.heap.size + 3, 0, none⟩)]) rfl trivial (enters_of Try.func39 (by kernel_rfl) rfl) hseq keepS_t (keepS_b (fun g h => by have := hSlt g h; omega)) (Below.refl _ _) (fun _ => rfl)
    (fun pre W => (pre <+: toldB 0 l ∧ (pre.length : Int) < z) ∧ Boxed W (w2.heap.size + 1) 3 (.int .i64 ((pre.length : Nat) : Int)) ∧ Boxed W (w2.heap.size + 1 + 1) 4 (.bool true) ∧ KeepS S w4 W)
    (fun c pre W => (c = .exit 0 ∧ (pre <+: toldB 0 l → (pre.length : Int) = z)) ∧ Boxed W (w2.heap.size + 1) 3 (.int .i64 ((pre.length : Nat) : Int)) ∧ Boxed W (w2.heap.size + 1 + 1) 4 (.bool (decide (pre <+: toldB 0 l))) ∧ KeepS S w4 W)
    (OwnFrom.and (ownFrom_pure _ _) (OwnFrom.and (Own.from (boxed_own _ _ _) _) (OwnFrom.and (Own.from (boxed_own _ _ _) _) (ownFrom_keepS (fun g h => by have := hSlt g h; omega) (fun g h => by have := hSlt g h; omega)))))
    (fun _ => OwnFrom.and (ownFrom_pure _ _) (OwnFrom.and (Own.from (boxed_own _ _ _) _) (OwnFrom.and (Own.from (boxed_own _ _ _) _) (ownFrom_keepS (fun g h => by have := hSlt g h; omega) (fun g h => by have := hSlt g h; omega)))))
    ⟨⟨List.nil_prefix, by show ((0 : Nat) : Int) < _; omega⟩, BN4.out, BK4.out, KeepS.refl _⟩
    (fun x => { tmps := #[Value.slice a l.length c, Value.int IntKind.i64 z, undef, Value.pointer (some { block := w.heap.size, off := 0 }), Value.bool false, Value.slice (some { block := w.heap.size + 1, off := 0 }) (l.length + 8) (l.length + 8), Value.pointer (some { block := w2.heap.size, off := 0 }), Value.pointer (some { block := w2.heap.size + 1, off := 0 }), Value.pointer (some { block := w2.heap.size + 1 + 1, off := 0 }), Value.func (Fn.func 39) #[] #[Value.pointer (some { block := w2.heap.size + 3, off := 0 })], Value.int IntKind.i64 ↑x.fst, Value.int IntKind.u8 ↑x.snd, undef, undef, Value.slice a l.length c, Value.slice (some { block := w.heap.size + 1, off := 0 }) (l.length + 8) (l.length + 8), Value.slice a l.length c, Value.agg #[Value.slice aP L cP, Value.slice aQ L cQ, Value.int IntKind.i64 ↑(badB 0 l).fst, Value.int IntKind.i64 ↑(badB 0 l).snd], Value.int IntKind.i64 z, Value.bool (decide (z < 1)), Value.slice (some { block := w.heap.size + 1, off := 0 }) (l.length + 8) (l.length + 8), Value.slice a l.length c, Value.int IntKind.i64 ↑l.length, Value.slice (some { block := w.heap.size + 1, off := 0 }) l.length (l.length + 8), Value.func (Fn.func 39) #[] #[Value.pointer (some { block := w2.heap.size + 3, off := 0 })], Value.func (Fn.func 39) #[] #[Value.pointer (some { block := w2.heap.size + 3, off := 0 })], Value.bool false, Value.func (Fn.func 39) #[] #[Value.pointer (some { block := w2.heap.size + 3, off := 0 })], Value.int IntKind.i64 ↑x.fst, Value.int IntKind.u8 ↑x.snd, undef, undef, undef, undef, undef, undef, undef, undef, undef, undef, undef, undef, undef, undef, undef, undef, undef, undef, undef, undef, undef, undef, undef, undef, undef, undef, undef, undef, undef, undef, undef, undef, undef, undef, undef, undef, undef, undef, undef, undef, undef, undef, undef, undef, undef, undef, undef, undef, undef, undef, undef, undef, undef, undef], defers := [] }) ?assign ?body ?done ?stop
  case assign =>
    intro lk x W K hK
    gi_wp2
    exact hK
  case body =>
    rintro lk pre ⟨x1, x2⟩ W ⟨⟨hp, hpy⟩, bn, bk, hS⟩ hlen
    have cm := (boxed_keepS BM4.out (HSI.out _ (by omega) (by omega) (by omega)) hS).cell
    have bo := BO4.out.keepS (HSI.out _ (by omega) (by omega) (by omega)) hS
    have co0 := bo.cell 0 _ rfl
    have co1 := bo.cell 1 _ rfl
    have cn := bn.cell
    have fn := bn.frozen
    have ck := bk.cell
    have fk := bk.frozen
    have HPS := hd (prefix_snoc (x := (x1, x2)) hp)
    obtain ⟨k, hke⟩ : ∃ k, k = pre.length := ⟨_, rfl⟩
    have HKE := hd hke
    have HP := hd hp
    have BN := hd bn
    have BK := hd bk
    have HS := hd hS
    rw [← hke] at cn hpy hlen
    have e1 : (((pre ++ [(x1, x2)]).length : Nat) : Int) = (k : Int) + 1 := by rw [List.length_append, List.length_singleton, ← hke]; rfl
    have HE1 := hd e1
    clear hke hp bn bk bo e1
    have hkb : k < 1048576 := by omega
    by_cases hkl : k < L
    · have hkP : k < (plain l).length := by unfold plain; rw [List.length_map, ← HL.out]; exact hkl
      have hkQ : k < ((toldB 0 l).map Prod.fst).length := by rw [List.length_map, ← HL.out]; exact hkl
      have hPk := (HP4.out.keepS (fun g hg => HSI.out g (by have := HP4.out.blk_lt g hg; omega) (by have := HPL.out g hg; omega) (by have := HPL.out g hg; omega)) hS).isK
      have hQk := (HQ4.out.keepS (fun g hg => HSI.out g (by have := HQ4.out.blk_lt g hg; omega) (by have := HQL.out g hg; omega) (by have := HQL.out g hg; omega)) hS).isK
      obtain ⟨_, _, ⟨hz0, _⟩ | ⟨pb, po, pc, ep, _, _, _, prow⟩⟩ := hPk
      · rw [hz0] at hkP; simp at hkP
      · obtain ⟨_, _, ⟨hz0, _⟩ | ⟨qb, qo, qc, eq, _, _, _, qrow⟩⟩ := hQk
        · rw [hz0] at hkQ; simp at hkQ
        · injection ep with ep1 ep2 ep3
          injection eq with eq1 eq2 eq3
          subst ep1 ep3 eq1 eq3
          have cp := prow k hkP
          have cq := qrow k hkQ
          have hkT : k < (toldB 0 l).length := by rw [← HL.out]; exact hkl
          have hat : (toldB 0 l)[k]? = some (((toldB 0 l).map Prod.fst).getD k 0, (plain l).getD k 0) := by
            unfold plain
            rw [List.getD_eq_getElem?_getD, List.getD_eq_getElem?_getD, List.getElem?_map, List.getElem?_map, List.getElem?_eq_getElem hkT]; rfl
          have hpc := HPS.out
          rw [← HKE.out, hat] at hpc
          generalize ((toldB 0 l).map Prod.fst).getD k 0 = q at *
          generalize (plain l).getD k 0 = p at *
          have HPC := hd hpc
          clear hpc hat prow qrow hkT hkP hkQ ep2 eq2
          by_cases h1 : q = x1
          · by_cases h2 : p = x2
            · subst h1 h2
              have hpre := HPC.out.2 rfl
              have HPRE := hd hpre
              have HD := hd (decide_eq_true hpre)
              clear hpre
              have HF := hd (each_fin (k := k) (b := true) BN.out BK.out HS.out HSN.out HSK.out)
              by_cases hy : (k : Int) + 1 = z
              · have hy2 : (((k : Int) + 1) == z) = true := by simp; omega
                have HY := hd hy
                clear hy
                gi_wp2
                obtain ⟨f1, f2, f3, f4, f5⟩ := HF.out
                exact ⟨f1, ⟨rfl, fun _ => by rw [HE1.out]; exact HY.out⟩, by rw [HE1.out]; exact f3, by rw [HD.out]; exact f4, f5⟩
              · have hy2 : (((k : Int) + 1) == z) = false := by simp; omega
                gi_wp2
                obtain ⟨f1, f2, f3, f4, f5⟩ := HF.out
                exact ⟨f1, f2, ⟨HPRE.out, by rw [HE1.out]; omega⟩, by rw [HE1.out]; exact f3, f4, f5⟩
            · have hne : ((p : Int) == (x2 : Int)) = false := by simp; omega
              have hnp : ¬ pre ++ [(x1, x2)] <+: toldB 0 l := by
                rw [HPC.out]; intro e; injection e with e; injection e with e e2; omega
              have HNP := hd hnp
              have HD := hd (decide_eq_false hnp)
              clear hnp
              subst h1
              have HF := hd (each_fin (k := k) (b := false) BN.out BK.out HS.out HSN.out HSK.out)
              by_cases hy : (k : Int) + 1 = z
              · have hy2 : (((k : Int) + 1) == z) = true := by simp; omega
                have HY := hd hy
                clear hy
                gi_wp2
                obtain ⟨f1, f2, f3, f4, f5⟩ := HF.out
                exact ⟨f1, ⟨rfl, fun h => absurd h HNP.out⟩, by rw [HE1.out]; exact f3, by rw [HD.out]; exact f4, f5⟩
              · have hy2 : (((k : Int) + 1) == z) = false := by simp; omega
                gi_wp2
                obtain ⟨f1, f2, f3, f4, f5⟩ := HF.out
                exact ⟨f1, ⟨rfl, fun h => absurd h HNP.out⟩, by rw [HE1.out]; exact f3, by rw [HD.out]; exact f4, f5⟩
          · have hne : ((q : Int) == (x1 : Int)) = false := by simp; omega
            have hnp : ¬ pre ++ [(x1, x2)] <+: toldB 0 l := by
              rw [HPC.out]; intro e; injection e with e; injection e with e e2; omega
            have HNP := hd hnp
            have HD := hd (decide_eq_false hnp)
            clear hnp
            have HF := hd (each_fin (k := k) (b := false) BN.out BK.out HS.out HSN.out HSK.out)
            by_cases hy : (k : Int) + 1 = z
            · have hy2 : (((k : Int) + 1) == z) = true := by simp; omega
              have HY := hd hy
              clear hy
              gi_wp2
              obtain ⟨f1, f2, f3, f4, f5⟩ := HF.out
              exact ⟨f1, ⟨rfl, fun h => absurd h HNP.out⟩, by rw [HE1.out]; exact f3, by rw [HD.out]; exact f4, f5⟩
            · have hy2 : (((k : Int) + 1) == z) = false := by simp; omega
              gi_wp2
              obtain ⟨f1, f2, f3, f4, f5⟩ := HF.out
              exact ⟨f1, ⟨rfl, fun h => absurd h HNP.out⟩, by rw [HE1.out]; exact f3, by rw [HD.out]; exact f4, f5⟩
    · have hnp : ¬ pre ++ [(x1, x2)] <+: toldB 0 l := by
        intro h
        have := h.length_le
        rw [List.length_append, List.length_singleton, ← HKE.out, ← HL.out] at this
        omega
      have HNP := hd hnp
      have HD := hd (decide_eq_false hnp)
      clear hnp
      have hkl2 : L ≤ k := by omega
      have HF := hd (each_fin (k := k) (b := false) BN.out BK.out HS.out HSN.out HSK.out)
      by_cases hy : (k : Int) + 1 = z
      · have hy2 : (((k : Int) + 1) == z) = true := by simp; omega
        have HY := hd hy
        clear hy
        gi_wp2
        obtain ⟨f1, f2, f3, f4, f5⟩ := HF.out
        exact ⟨f1, ⟨rfl, fun h => absurd h HNP.out⟩, by rw [HE1.out]; exact f3, by rw [HD.out]; exact f4, f5⟩
      · have hy2 : (((k : Int) + 1) == z) = false := by simp; omega
        gi_wp2
        obtain ⟨f1, f2, f3, f4, f5⟩ := HF.out
        exact ⟨f1, ⟨rfl, fun h => absurd h HNP.out⟩, by rw [HE1.out]; exact f3, by rw [HD.out]; exact f4, f5⟩
  case done =>
    rintro D ys W hD rfl ⟨⟨hp, hpy⟩, bn, bk, hS⟩ hK
    rw [← HL.out] at bn hpy
    clear hp hseq
    have hD2 : D < W.heap.size := (Array.getElem?_eq_some_iff.1 hK).1
    have hbl := hS.below (n := w2.heap.size + 1) (fun g hg => HSI.out g (by omega) (by omega) (by omega))
    have HBW : Hid (Below w.heap.size w W) := HB4.out.trans (hbl.mono (by omega))
    have cm := (boxed_below BM4.out (by omega) hbl).cell
    have co := BO4.out.below (by omega) hbl
    have co0 := co.cell 0 _ rfl
    have HFW := hd (HF4.out.below (by omega) hbl)
    have HIW := hd (HI.out.below HBW.out)
    have BNW := hd bn
    have BKW := hd bk
    have HKW := hd hK
    clear hbl co hS hK BM4 BO4 BS4 BN4 BK4 HF4 HP4 HQ4 HB4
    have hyl : ¬ (z < (L : Int)) := by omega
    gi_wp2
    refine ⟨trivial, CallsIn.mono (callsIn_wide.2 (whole_is _ _ _ l W HFW.out HIW.out)) ?_⟩
    rintro e w9 ⟨rfl, n9, hw9⟩
    have cn9 : w9.cell? ⟨w2.heap.size + 1, 0, none⟩ = some (.int .i64 (L : Int)) := by rw [hw9]; exact BNW.out.cell
    have ck9 : w9.cell? ⟨w2.heap.size + 1 + 1, 0, none⟩ = some (.bool true) := by rw [hw9]; exact BKW.out.cell
    have HB9 : Hid (Below w.heap.size w w9) := by rw [hw9]; exact below_drewN HBW.out n9
    have HK9 : Hid (w9.heap[D]? = some (.deferred (some []))) := by rw [hw9]; exact HKW.out
    clear hw9
    gi_wp2
    refine ⟨by simp, .inl ⟨_, _, rfl, run_takeDeferred HK9.out, ?_⟩⟩
    exact ⟨_, results_tmp rfl _ _ _, by first | rfl | (simp; omega), HB9.out.trans (belowK_b (w := w) (Nat.le_refl _) _ D _ _ (by omega) HK9.out rfl rfl)⟩
  case stop =>
    rintro D c pre W hD hp ⟨⟨rfl, hpy⟩, bn, bk, hS⟩ hK
    have hpy2 := hpy hp
    have hple := hp.length_le
    rw [← HL.out] at hple
    rw [decide_eq_true hp] at bk
    obtain ⟨k, hke⟩ : ∃ k, k = pre.length := ⟨_, rfl⟩
    rw [← hke] at bn hpy2 hple
    clear hke hp hpy
    clear hseq
    have hD2 : D < W.heap.size := (Array.getElem?_eq_some_iff.1 hK).1
    have hbl := hS.below (n := w2.heap.size + 1) (fun g hg => HSI.out g (by omega) (by omega) (by omega))
    have HBW : Hid (Below w.heap.size w W) := HB4.out.trans (hbl.mono (by omega))
    have cm := (boxed_below BM4.out (by omega) hbl).cell
    have co := BO4.out.below (by omega) hbl
    have co0 := co.cell 0 _ rfl
    have HFW := hd (HF4.out.below (by omega) hbl)
    have HIW := hd (HI.out.below HBW.out)
    have BNW := hd bn
    have BKW := hd bk
    have HKW := hd hK
    clear hbl co hS hK BM4 BO4 BS4 BN4 BK4 HF4 HP4 HQ4 HB4
    by_cases hyl : z < (L : Int)
    · gi_wp2
      refine ⟨trivial, CallsIn.mono (callsIn_wide.2 (whole_is _ _ _ l W HFW.out HIW.out)) ?_⟩
      rintro e w9 ⟨rfl, n9, hw9⟩
      have cn9 : w9.cell? ⟨w2.heap.size + 1, 0, none⟩ = some (.int .i64 (k : Int)) := by rw [hw9]; exact BNW.out.cell
      have ck9 : w9.cell? ⟨w2.heap.size + 1 + 1, 0, none⟩ = some (.bool true) := by rw [hw9]; exact BKW.out.cell
      have HB9 : Hid (Below w.heap.size w w9) := by rw [hw9]; exact below_drewN HBW.out n9
      have HK9 : Hid (w9.heap[D]? = some (.deferred (some []))) := by rw [hw9]; exact HKW.out
      clear hw9
      gi_wp2
      refine ⟨by simp, .inl ⟨_, _, rfl, run_takeDeferred HK9.out, ?_⟩⟩
      exact ⟨_, results_tmp rfl _ _ _, by first | rfl | (simp; omega), HB9.out.trans (belowK_b (w := w) (Nat.le_refl _) _ D _ _ (by omega) HK9.out rfl rfl)⟩
      
    · gi_wp2
      refine ⟨trivial, CallsIn.mono (callsIn_wide.2 (whole_is _ _ _ l W HFW.out HIW.out)) ?_⟩
      rintro e w9 ⟨rfl, n9, hw9⟩
      have cn9 : w9.cell? ⟨w2.heap.size + 1, 0, none⟩ = some (.int .i64 (k : Int)) := by rw [hw9]; exact BNW.out.cell
      have ck9 : w9.cell? ⟨w2.heap.size + 1 + 1, 0, none⟩ = some (.bool true) := by rw [hw9]; exact BKW.out.cell
      have HB9 : Hid (Below w.heap.size w w9) := by rw [hw9]; exact below_drewN HBW.out n9
      have HK9 : Hid (w9.heap[D]? = some (.deferred (some []))) := by rw [hw9]; exact HKW.out
      clear hw9
      gi_wp2
      refine ⟨by simp, .inl ⟨_, _, rfl, run_takeDeferred HK9.out, ?_⟩⟩
      exact ⟨_, results_tmp rfl _ _ _, by first | rfl | (simp; omega), HB9.out.trans (belowK_b (w := w) (Nat.le_refl _) _ D _ _ (by omega) HK9.out rfl rfl)⟩
set_option maxRecDepth 100000 in
set_option maxHeartbeats 4000000 in
theorem leach_lo (v : Value) (l : List Nat) (z : Int) (w : World) (hI : IsB w v l) (hm : l.length ≤ 1048576) (hz : z < 1) :
    Calls Try.prog 17 #[v, .int .i64 z] w fun e w' => e = .returned (.bool true) ∧ Below w.heap.size w w' := by
  have HI := hd hI
  obtain ⟨a, c, rfl⟩ := hI.shape
  clear hI
  refine (callsIn_wide (n := 8)).1 ?_
  refine callsIn_of_wp_marks Try.func17 rfl trivial ?_ rfl
  simp only [Try.ntmps17, List.size_toArray, List.length_cons, List.length_nil, Nat.reduceAdd, Nat.reduceSub, Array.replicate_succ, Array.replicate_zero, List.push_toArray, List.append_toArray, List.nil_append, List.cons_append]
  gi_wp2
  obtain ⟨W0, hW0⟩ : ∃ W0, W0 = w.alloc (.cells #[.int .i64 z] 3) := ⟨_, rfl⟩
  have hs0 : W0.heap.size = w.heap.size + 1 := by rw [hW0]; simp
  have hb0 : Below w.heap.size w W0 := by rw [hW0]; exact (Below.refl _ _).alloc (Nat.le_refl _) _
  have BM0 : Hid (Boxed W0 w.heap.size 3 (.int .i64 z)) := by rw [hW0]; exact Boxed.new w 3 _
  rw [← hW0]
  refine ⟨trivial, CallsIn.mono (callsIn_wide.2 (room_is _ l W0 (HI.out.below hb0) (by omega))) ?_⟩
  rintro e w1 ⟨rfl, hj1, hb1⟩
  have HB1 := hd (hb0.trans (hb1.mono hb0.size))
  have BM1 := hd (boxed_below BM0.out BM0.out.lt hb1)
  have HF1 := hd hj1.buf
  have hs1 := hj1.buf.2.2.1
  rw [hs0] at HF1 hs1 ⊢
  clear hW0 hb0 BM0 hj1 hb1 hs0
  gi_wp2
  refine ⟨trivial, CallsIn.mono (callsIn_wide.2 (look_is _ l w1 (HI.out.below HB1.out) hm)) ?_⟩
  rintro e w2 ⟨vP, vQ, rfl, hP2, hQ2, hb2⟩
  have HB2 := hd (HB1.out.trans (hb2.mono HB1.out.size))
  have BM2 := hd (boxed_below BM1.out BM1.out.lt hb2)
  have HF2 := hd (HF1.out.below HF1.out.2.2.1 hb2)
  have hs2 := hb2.size
  have HP2 := hd hP2
  have HQ2 := hd hQ2
  have HPL := hd hP2.blk_lt
  have HQL := hd hQ2.blk_lt
  obtain ⟨aP, cP, eP, hcP⟩ := hP2.shape
  obtain ⟨aQ, cQ, eQ, hcQ⟩ := hQ2.shape
  rw [List.length_map] at eQ hcQ
  obtain ⟨L, hL⟩ : ∃ L, L = (toldB 0 l).length := ⟨_, rfl⟩
  have hLP : (plain l).length = L := by unfold plain; rw [List.length_map, hL]
  have hLl : L ≤ l.length := by rw [hL]; exact toldB_len 0 l
  have HL := hd hL
  rw [← hL] at eQ hcQ
  rw [hLP] at eP hcP
  subst eP eQ
  clear hP2 hQ2 hb2 HB1 BM1 HF1 hL hLP
  have cmA : ∀ o1 o2 o3, (((w2.alloc o1).alloc o2).alloc o3).cell? ⟨w.heap.size, 0, none⟩ = some (.int .i64 z) := fun o1 o2 o3 => (((BM2.out.alloc o1).alloc o2).alloc o3).cell
  have fmA : ∀ o1 o2 o3, (((w2.alloc o1).alloc o2).alloc o3).frozen? ⟨w.heap.size, 0, none⟩ = false := fun o1 o2 o3 => (((BM2.out.alloc o1).alloc o2).alloc o3).frozen
  gi_wp2
  clear cmA fmA
  obtain ⟨W3, hW3⟩ : ∃ W3, W3 = ((((w2.alloc (.cells #[.slice aP L cP, .slice aQ L cQ, .int .i64 ((badB 0 l).1 : Int), .int .i64 ((badB 0 l).2 : Int)] 51)).alloc (.cells #[.int .i64 0] 3)).alloc (.cells #[.bool true] 4)).setCell ⟨w.heap.size, 0, none⟩ (.int .i64 1)) := ⟨_, rfl⟩
  rw [← hW3]
  obtain ⟨W2, hW2⟩ : ∃ W2, W2 = (((w2.alloc (.cells #[.slice aP L cP, .slice aQ L cQ, .int .i64 ((badB 0 l).1 : Int), .int .i64 ((badB 0 l).2 : Int)] 51)).alloc (.cells #[.int .i64 0] 3)).alloc (.cells #[.bool true] 4)) := ⟨_, rfl⟩
  have hsz2 : W2.heap.size = w2.heap.size + 3 := by rw [hW2]; simp
  have hlow : Below w2.heap.size w2 W2 := by rw [hW2]; exact (((Below.refl _ _).alloc (Nat.le_refl _) _).alloc (by simp) _).alloc (by simp; omega) _
  have bo2 : Blk W2 w2.heap.size 51 [.slice aP L cP, .slice aQ L cQ, .int .i64 ((badB 0 l).1 : Int), .int .i64 ((badB 0 l).2 : Int)] := by
    rw [hW2]; exact ((Blk.new w2 51 [.slice aP L cP, .slice aQ L cQ, .int .i64 ((badB 0 l).1 : Int), .int .i64 ((badB 0 l).2 : Int)]).alloc _).alloc _
  have bn2 : Boxed W2 (w2.heap.size + 1) 3 (.int .i64 0) := by
    have := (Boxed.new (w2.alloc (.cells #[.slice aP L cP, .slice aQ L cQ, .int .i64 ((badB 0 l).1 : Int), .int .i64 ((badB 0 l).2 : Int)] 51)) 3 (.int .i64 0)).alloc (.cells #[.bool true] 4)
    rw [World.size_alloc] at this
    rw [hW2]; exact this
  have bk2 : Boxed W2 (w2.heap.size + 1 + 1) 4 (.bool true) := by
    have := Boxed.new ((w2.alloc (.cells #[.slice aP L cP, .slice aQ L cQ, .int .i64 ((badB 0 l).1 : Int), .int .i64 ((badB 0 l).2 : Int)] 51)).alloc (.cells #[.int .i64 0] 3)) 4 (.bool true)
    rw [World.size_alloc, World.size_alloc] at this
    rw [hW2]; exact this
  have hmw : w.heap.size < w2.heap.size := by have := BM2.out.lt; omega
  have hW32 : W3 = W2.setCell ⟨w.heap.size, 0, none⟩ (.int .i64 1) := by rw [hW3, hW2]
  have hsz3 : W3.heap.size = w2.heap.size + 3 := by rw [hW32]; simpa [World.setCell] using hsz2
  have BM3 : Hid (Boxed W3 w.heap.size 3 (.int .i64 1)) := by rw [hW32]; exact (boxed_below BM2.out BM2.out.lt hlow).set _
  have BO3 : Hid (Blk W3 w2.heap.size 51 [.slice aP L cP, .slice aQ L cQ, .int .i64 ((badB 0 l).1 : Int), .int .i64 ((badB 0 l).2 : Int)]) := by rw [hW32]; exact bo2.other (p := ⟨w.heap.size, 0, none⟩) (by simp; omega) _
  have BN3 : Hid (Boxed W3 (w2.heap.size + 1) 3 (.int .i64 0)) := by rw [hW32]; exact bn2.other (by omega) _
  have BK3 : Hid (Boxed W3 (w2.heap.size + 1 + 1) 4 (.bool true)) := by rw [hW32]; exact bk2.other (by omega) _
  have HF3 : Hid (Buf W3 (w.heap.size + 1) (l.length + 8) (mk8 l)) := by rw [hW32]; exact (HF2.out.below HF2.out.2.2.1 hlow).other (p := ⟨w.heap.size, 0, none⟩) (by simp) _
  have HP3 : Hid (JK .u8 256 5 W3 w1.heap.size (.slice aP L cP) (plain l)) := by
    rw [hW32]; exact (HP2.out.keepAll hlow).setO (p := ⟨w.heap.size, 0, none⟩) (fun g hg => by have := HP2.out.blk_ge g hg; simp; omega) _
  have HQ3 : Hid (JI W3 w1.heap.size (.slice aQ L cQ) ((toldB 0 l).map Prod.fst)) := by
    rw [hW32]; exact (HQ2.out.keepAll hlow).setO (p := ⟨w.heap.size, 0, none⟩) (fun g hg => by have := HQ2.out.blk_ge g hg; simp; omega) _
  have HB3 : Hid (Below w.heap.size w W3) := by rw [hW32]; exact (HB2.out.trans (hlow.mono HB2.out.size)).setCell (p := ⟨w.heap.size, 0, none⟩) (Nat.le_refl _) _
  clear hW3 hW2 hW32 hlow bo2 bn2 bk2 hsz2 BM2 HF2 HP2 HQ2 HB2
  refine ⟨trivial, CallsIn.mono (callsIn_wide.2 (each_is _ _ _ W3)) ?_⟩
  rintro e w4 ⟨rfl, hw4⟩
  have hs4 : w4.heap.size = w2.heap.size + 4 := by rw [hw4]; simp; omega
  have hb34 : Below W3.heap.size W3 w4 := by rw [hw4]; exact (Below.refl _ _).alloc (Nat.le_refl _) _
  have BS4 : Hid (Boxed w4 (w2.heap.size + 3) 22 (.slice (some ⟨w.heap.size + 1, 0, none⟩) l.length (l.length + 8))) := by
    rw [← hsz3, hw4]; exact Boxed.new _ _ _
  have BM4 := hd (boxed_below BM3.out BM3.out.lt hb34)
  have BO4 := hd (BO3.out.keep hb34)
  have BN4 := hd (boxed_below BN3.out BN3.out.lt hb34)
  have BK4 := hd (boxed_below BK3.out BK3.out.lt hb34)
  have HF4 := hd (HF3.out.below HF3.out.2.2.1 hb34)
  have HP4 := hd (HP3.out.keepAll hb34)
  have HQ4 := hd (HQ3.out.keepAll hb34)
  have HB4 := hd (HB3.out.trans (hb34.mono HB3.out.size))
  rw [hsz3]
  clear hw4 hb34 BM3 BO3 BN3 BK3 HF3 HP3 HQ3 HB3
  have hrun : Sem.run Try.prog (binOp BinOp.eql 41 (Value.func (.func 39) #[] #[.pointer (some ⟨w2.heap.size + 3, 0, none⟩)]) Value.nilFunc) w4 = .ok (.bool false) w4 := by kernel_rfl
  gi_wp2
  clear hrun
  obtain ⟨S, hSd⟩ : ∃ S : Nat → Prop, S = fun g => g < w2.heap.size + 4 ∧ g ≠ w2.heap.size + 1 ∧ g ≠ w2.heap.size + 1 + 1 := ⟨_, rfl⟩
  have hSi : ∀ g, g < w2.heap.size + 4 → g ≠ w2.heap.size + 1 → g ≠ w2.heap.size + 1 + 1 → S g := fun g h1 h2 h3 => by rw [hSd]; exact ⟨h1, h2, h3⟩
  have hSlt : ∀ g, S g → g < w2.heap.size + 4 := fun g h => by rw [hSd] at h; exact h.1
  have hSn : ¬ S (w2.heap.size + 1) := fun h => by rw [hSd] at h; exact h.2.1 rfl
  have hSk : ¬ S (w2.heap.size + 1 + 1) := fun h => by rw [hSd] at h; exact h.2.2 rfl
  clear hSd
  have HSI := hd hSi
  have HSN := hd hSn
  have HSK := hd hSk
  have HSLT := hd hSlt
  have hlmem := lent_isB HF4.out
  have hseq := each_stops 7 (by omega) S (w2.heap.size + 3) _ l w4 (hSi _ (by omega) (by omega) (by omega)) (by omega) BS4.out.cell hlmem (by
    intro b off cc _ e
    injection e with e1 e2 e3
    injection e1 with e1
    injection e1 with e1
    exact hSi _ (by omega) (by omega) (by omega))
  clear hlmem
  refine wpIn_rangeFunc_ownF rfl (by omega) (gf := 39) (lb := #[.pointer (some ⟨w2.heap.size + 3, 0, none⟩)]) rfl trivial (enters_of Try.func39 (by kernel_rfl) rfl) hseq keepS_t (keepS_b (fun g h => by have := hSlt g h; omega)) (Below.refl _ _) (fun _ => rfl)
    (fun pre W => (pre <+: toldB 0 l ∧ (pre.length : Int) < 1) ∧ Boxed W (w2.heap.size + 1) 3 (.int .i64 ((pre.length : Nat) : Int)) ∧ Boxed W (w2.heap.size + 1 + 1) 4 (.bool true) ∧ KeepS S w4 W)
    (fun c pre W => (c = .exit 0 ∧ (pre <+: toldB 0 l → (pre.length : Int) = 1)) ∧ Boxed W (w2.heap.size + 1) 3 (.int .i64 ((pre.length : Nat) : Int)) ∧ Boxed W (w2.heap.size + 1 + 1) 4 (.bool (decide (pre <+: toldB 0 l))) ∧ KeepS S w4 W)
    (OwnFrom.and (ownFrom_pure _ _) (OwnFrom.and (Own.from (boxed_own _ _ _) _) (OwnFrom.and (Own.from (boxed_own _ _ _) _) (ownFrom_keepS (fun g h => by have := hSlt g h; omega) (fun g h => by have := hSlt g h; omega)))))
    (fun _ => OwnFrom.and (ownFrom_pure _ _) (OwnFrom.and (Own.from (boxed_own _ _ _) _) (OwnFrom.and (Own.from (boxed_own _ _ _) _) (ownFrom_keepS (fun g h => by have := hSlt g h; omega) (fun g h => by have := hSlt g h; omega)))))
    ⟨⟨List.nil_prefix, by show ((0 : Nat) : Int) < _; omega⟩, BN4.out, BK4.out, KeepS.refl _⟩
    (fun x => { tmps := #[Value.slice a l.length c, Value.int IntKind.i64 z, undef, Value.pointer (some { block := w.heap.size, off := 0 }), Value.bool false, Value.slice (some { block := w.heap.size + 1, off := 0 }) (l.length + 8) (l.length + 8), Value.pointer (some { block := w2.heap.size, off := 0 }), Value.pointer (some { block := w2.heap.size + 1, off := 0 }), Value.pointer (some { block := w2.heap.size + 1 + 1, off := 0 }), Value.func (Fn.func 39) #[] #[Value.pointer (some { block := w2.heap.size + 3, off := 0 })], Value.int IntKind.i64 ↑x.fst, Value.int IntKind.u8 ↑x.snd, undef, undef, Value.slice a l.length c, Value.slice (some { block := w.heap.size + 1, off := 0 }) (l.length + 8) (l.length + 8), Value.slice a l.length c, Value.agg #[Value.slice aP L cP, Value.slice aQ L cQ, Value.int IntKind.i64 ↑(badB 0 l).fst, Value.int IntKind.i64 ↑(badB 0 l).snd], Value.int IntKind.i64 z, Value.bool true, Value.slice (some { block := w.heap.size + 1, off := 0 }) (l.length + 8) (l.length + 8), Value.slice a l.length c, Value.int IntKind.i64 ↑l.length, Value.slice (some { block := w.heap.size + 1, off := 0 }) l.length (l.length + 8), Value.func (Fn.func 39) #[] #[Value.pointer (some { block := w2.heap.size + 3, off := 0 })], Value.func (Fn.func 39) #[] #[Value.pointer (some { block := w2.heap.size + 3, off := 0 })], Value.bool false, Value.func (Fn.func 39) #[] #[Value.pointer (some { block := w2.heap.size + 3, off := 0 })], Value.int IntKind.i64 ↑x.fst, Value.int IntKind.u8 ↑x.snd, undef, undef, undef, undef, undef, undef, undef, undef, undef, undef, undef, undef, undef, undef, undef, undef, undef, undef, undef, undef, undef, undef, undef, undef, undef, undef, undef, undef, undef, undef, undef, undef, undef, undef, undef, undef, undef, undef, undef, undef, undef, undef, undef, undef, undef, undef, undef, undef, undef, undef, undef, undef, undef, undef], defers := [] }) ?assign ?body ?done ?stop
  case assign =>
    intro lk x W K hK
    gi_wp2
    exact hK
  case body =>
    rintro lk pre ⟨x1, x2⟩ W ⟨⟨hp, hpy⟩, bn, bk, hS⟩ hlen
    have cm := (boxed_keepS BM4.out (HSI.out _ (by omega) (by omega) (by omega)) hS).cell
    have bo := BO4.out.keepS (HSI.out _ (by omega) (by omega) (by omega)) hS
    have co0 := bo.cell 0 _ rfl
    have co1 := bo.cell 1 _ rfl
    have cn := bn.cell
    have fn := bn.frozen
    have ck := bk.cell
    have fk := bk.frozen
    have HPS := hd (prefix_snoc (x := (x1, x2)) hp)
    obtain ⟨k, hke⟩ : ∃ k, k = pre.length := ⟨_, rfl⟩
    have HKE := hd hke
    have HP := hd hp
    have BN := hd bn
    have BK := hd bk
    have HS := hd hS
    rw [← hke] at cn hpy hlen
    have e1 : (((pre ++ [(x1, x2)]).length : Nat) : Int) = (k : Int) + 1 := by rw [List.length_append, List.length_singleton, ← hke]; rfl
    have HE1 := hd e1
    clear hke hp bn bk bo e1
    have hkb : k < 1048576 := by omega
    by_cases hkl : k < L
    · have hkP : k < (plain l).length := by unfold plain; rw [List.length_map, ← HL.out]; exact hkl
      have hkQ : k < ((toldB 0 l).map Prod.fst).length := by rw [List.length_map, ← HL.out]; exact hkl
      have hPk := (HP4.out.keepS (fun g hg => HSI.out g (by have := HP4.out.blk_lt g hg; omega) (by have := HPL.out g hg; omega) (by have := HPL.out g hg; omega)) hS).isK
      have hQk := (HQ4.out.keepS (fun g hg => HSI.out g (by have := HQ4.out.blk_lt g hg; omega) (by have := HQL.out g hg; omega) (by have := HQL.out g hg; omega)) hS).isK
      obtain ⟨_, _, ⟨hz0, _⟩ | ⟨pb, po, pc, ep, _, _, _, prow⟩⟩ := hPk
      · rw [hz0] at hkP; simp at hkP
      · obtain ⟨_, _, ⟨hz0, _⟩ | ⟨qb, qo, qc, eq, _, _, _, qrow⟩⟩ := hQk
        · rw [hz0] at hkQ; simp at hkQ
        · injection ep with ep1 ep2 ep3
          injection eq with eq1 eq2 eq3
          subst ep1 ep3 eq1 eq3
          have cp := prow k hkP
          have cq := qrow k hkQ
          have hkT : k < (toldB 0 l).length := by rw [← HL.out]; exact hkl
          have hat : (toldB 0 l)[k]? = some (((toldB 0 l).map Prod.fst).getD k 0, (plain l).getD k 0) := by
            unfold plain
            rw [List.getD_eq_getElem?_getD, List.getD_eq_getElem?_getD, List.getElem?_map, List.getElem?_map, List.getElem?_eq_getElem hkT]; rfl
          have hpc := HPS.out
          rw [← HKE.out, hat] at hpc
          generalize ((toldB 0 l).map Prod.fst).getD k 0 = q at *
          generalize (plain l).getD k 0 = p at *
          have HPC := hd hpc
          clear hpc hat prow qrow hkT hkP hkQ ep2 eq2
          by_cases h1 : q = x1
          · by_cases h2 : p = x2
            · subst h1 h2
              have hpre := HPC.out.2 rfl
              have HPRE := hd hpre
              have HD := hd (decide_eq_true hpre)
              clear hpre
              have HF := hd (each_fin (k := k) (b := true) BN.out BK.out HS.out HSN.out HSK.out)
              by_cases hy : (k : Int) + 1 = 1
              · have hy2 : (((k : Int) + 1) == 1) = true := by simp; omega
                have HY := hd hy
                clear hy
                gi_wp2
                obtain ⟨f1, f2, f3, f4, f5⟩ := HF.out
                exact ⟨f1, ⟨rfl, fun _ => by rw [HE1.out]; exact HY.out⟩, by rw [HE1.out]; exact f3, by rw [HD.out]; exact f4, f5⟩
              · exfalso; omega
            · have hne : ((p : Int) == (x2 : Int)) = false := by simp; omega
              have hnp : ¬ pre ++ [(x1, x2)] <+: toldB 0 l := by
                rw [HPC.out]; intro e; injection e with e; injection e with e e2; omega
              have HNP := hd hnp
              have HD := hd (decide_eq_false hnp)
              clear hnp
              subst h1
              have HF := hd (each_fin (k := k) (b := false) BN.out BK.out HS.out HSN.out HSK.out)
              by_cases hy : (k : Int) + 1 = 1
              · have hy2 : (((k : Int) + 1) == 1) = true := by simp; omega
                have HY := hd hy
                clear hy
                gi_wp2
                obtain ⟨f1, f2, f3, f4, f5⟩ := HF.out
                exact ⟨f1, ⟨rfl, fun h => absurd h HNP.out⟩, by rw [HE1.out]; exact f3, by rw [HD.out]; exact f4, f5⟩
              · exfalso; omega
          · have hne : ((q : Int) == (x1 : Int)) = false := by simp; omega
            have hnp : ¬ pre ++ [(x1, x2)] <+: toldB 0 l := by
              rw [HPC.out]; intro e; injection e with e; injection e with e e2; omega
            have HNP := hd hnp
            have HD := hd (decide_eq_false hnp)
            clear hnp
            have HF := hd (each_fin (k := k) (b := false) BN.out BK.out HS.out HSN.out HSK.out)
            by_cases hy : (k : Int) + 1 = 1
            · have hy2 : (((k : Int) + 1) == 1) = true := by simp; omega
              have HY := hd hy
              clear hy
              gi_wp2
              obtain ⟨f1, f2, f3, f4, f5⟩ := HF.out
              exact ⟨f1, ⟨rfl, fun h => absurd h HNP.out⟩, by rw [HE1.out]; exact f3, by rw [HD.out]; exact f4, f5⟩
            · exfalso; omega
    · have hnp : ¬ pre ++ [(x1, x2)] <+: toldB 0 l := by
        intro h
        have := h.length_le
        rw [List.length_append, List.length_singleton, ← HKE.out, ← HL.out] at this
        omega
      have HNP := hd hnp
      have HD := hd (decide_eq_false hnp)
      clear hnp
      have hkl2 : L ≤ k := by omega
      have HF := hd (each_fin (k := k) (b := false) BN.out BK.out HS.out HSN.out HSK.out)
      by_cases hy : (k : Int) + 1 = 1
      · have hy2 : (((k : Int) + 1) == 1) = true := by simp; omega
        have HY := hd hy
        clear hy
        gi_wp2
        obtain ⟨f1, f2, f3, f4, f5⟩ := HF.out
        exact ⟨f1, ⟨rfl, fun h => absurd h HNP.out⟩, by rw [HE1.out]; exact f3, by rw [HD.out]; exact f4, f5⟩
      · exfalso; omega
  case done =>
    rintro D ys W hD rfl ⟨⟨hp, hpy⟩, bn, bk, hS⟩ hK
    rw [← HL.out] at bn hpy
    clear hp hseq
    have hD2 : D < W.heap.size := (Array.getElem?_eq_some_iff.1 hK).1
    have hbl := hS.below (n := w2.heap.size + 1) (fun g hg => HSI.out g (by omega) (by omega) (by omega))
    have HBW : Hid (Below w.heap.size w W) := HB4.out.trans (hbl.mono (by omega))
    have cm := (boxed_below BM4.out (by omega) hbl).cell
    have co := BO4.out.below (by omega) hbl
    have co0 := co.cell 0 _ rfl
    have HFW := hd (HF4.out.below (by omega) hbl)
    have HIW := hd (HI.out.below HBW.out)
    have BNW := hd bn
    have BKW := hd bk
    have HKW := hd hK
    clear hbl co hS hK BM4 BO4 BS4 BN4 BK4 HF4 HP4 HQ4 HB4
    have hyl : ¬ (1 < (L : Int)) := by omega
    gi_wp2
    refine ⟨trivial, CallsIn.mono (callsIn_wide.2 (whole_is _ _ _ l W HFW.out HIW.out)) ?_⟩
    rintro e w9 ⟨rfl, n9, hw9⟩
    have cn9 : w9.cell? ⟨w2.heap.size + 1, 0, none⟩ = some (.int .i64 (L : Int)) := by rw [hw9]; exact BNW.out.cell
    have ck9 : w9.cell? ⟨w2.heap.size + 1 + 1, 0, none⟩ = some (.bool true) := by rw [hw9]; exact BKW.out.cell
    have HB9 : Hid (Below w.heap.size w w9) := by rw [hw9]; exact below_drewN HBW.out n9
    have HK9 : Hid (w9.heap[D]? = some (.deferred (some []))) := by rw [hw9]; exact HKW.out
    clear hw9
    gi_wp2
    refine ⟨by simp, .inl ⟨_, _, rfl, run_takeDeferred HK9.out, ?_⟩⟩
    exact ⟨_, results_tmp rfl _ _ _, by first | rfl | (simp; omega), HB9.out.trans (belowK_b (w := w) (Nat.le_refl _) _ D _ _ (by omega) HK9.out rfl rfl)⟩
  case stop =>
    rintro D c pre W hD hp ⟨⟨rfl, hpy⟩, bn, bk, hS⟩ hK
    have hpy2 := hpy hp
    have hple := hp.length_le
    rw [← HL.out] at hple
    rw [decide_eq_true hp] at bk
    obtain ⟨k, hke⟩ : ∃ k, k = pre.length := ⟨_, rfl⟩
    rw [← hke] at bn hpy2 hple
    clear hke hp hpy
    clear hseq
    have hD2 : D < W.heap.size := (Array.getElem?_eq_some_iff.1 hK).1
    have hbl := hS.below (n := w2.heap.size + 1) (fun g hg => HSI.out g (by omega) (by omega) (by omega))
    have HBW : Hid (Below w.heap.size w W) := HB4.out.trans (hbl.mono (by omega))
    have cm := (boxed_below BM4.out (by omega) hbl).cell
    have co := BO4.out.below (by omega) hbl
    have co0 := co.cell 0 _ rfl
    have HFW := hd (HF4.out.below (by omega) hbl)
    have HIW := hd (HI.out.below HBW.out)
    have BNW := hd bn
    have BKW := hd bk
    have HKW := hd hK
    clear hbl co hS hK BM4 BO4 BS4 BN4 BK4 HF4 HP4 HQ4 HB4
    by_cases hyl : 1 < (L : Int)
    · gi_wp2
      refine ⟨trivial, CallsIn.mono (callsIn_wide.2 (whole_is _ _ _ l W HFW.out HIW.out)) ?_⟩
      rintro e w9 ⟨rfl, n9, hw9⟩
      have cn9 : w9.cell? ⟨w2.heap.size + 1, 0, none⟩ = some (.int .i64 (k : Int)) := by rw [hw9]; exact BNW.out.cell
      have ck9 : w9.cell? ⟨w2.heap.size + 1 + 1, 0, none⟩ = some (.bool true) := by rw [hw9]; exact BKW.out.cell
      have HB9 : Hid (Below w.heap.size w w9) := by rw [hw9]; exact below_drewN HBW.out n9
      have HK9 : Hid (w9.heap[D]? = some (.deferred (some []))) := by rw [hw9]; exact HKW.out
      clear hw9
      gi_wp2
      refine ⟨by simp, .inl ⟨_, _, rfl, run_takeDeferred HK9.out, ?_⟩⟩
      exact ⟨_, results_tmp rfl _ _ _, by first | rfl | (simp; omega), HB9.out.trans (belowK_b (w := w) (Nat.le_refl _) _ D _ _ (by omega) HK9.out rfl rfl)⟩
      
    · gi_wp2
      refine ⟨trivial, CallsIn.mono (callsIn_wide.2 (whole_is _ _ _ l W HFW.out HIW.out)) ?_⟩
      rintro e w9 ⟨rfl, n9, hw9⟩
      have cn9 : w9.cell? ⟨w2.heap.size + 1, 0, none⟩ = some (.int .i64 (k : Int)) := by rw [hw9]; exact BNW.out.cell
      have ck9 : w9.cell? ⟨w2.heap.size + 1 + 1, 0, none⟩ = some (.bool true) := by rw [hw9]; exact BKW.out.cell
      have HB9 : Hid (Below w.heap.size w w9) := by rw [hw9]; exact below_drewN HBW.out n9
      have HK9 : Hid (w9.heap[D]? = some (.deferred (some []))) := by rw [hw9]; exact HKW.out
      clear hw9
      gi_wp2
      refine ⟨by simp, .inl ⟨_, _, rfl, run_takeDeferred HK9.out, ?_⟩⟩
      exact ⟨_, results_tmp rfl _ _ _, by first | rfl | (simp; omega), HB9.out.trans (belowK_b (w := w) (Nat.le_refl _) _ D _ _ (by omega) HK9.out rfl rfl)⟩
end Vt
end Go.Proofs.Ytojogadklhmkbaa
