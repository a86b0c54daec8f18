/-
  THE WALK OF the document's own Look (salvorref3): what 'toldB' and 'badB' say, in rows of the call's own.
-/
import Derived.Test.YtipopjhmjdnnlaaE6
import Derived.Test.YtipopjhmjdnnlaaU2
import Derived.Laws.Rows
namespace Go.Proofs.Ytipopjhmjdnnlaa
open Go.RowKit
namespace Vt
abbrev JI := JK .i64 9223372036854775808 3
/-- what Look gives: the plain bytes, their places, what is wrong and where -/
def LookPost (w : World) (l : List Nat) (e : Ending) (w' : World) : Prop := ∃ vP vQ, e = .returned (.agg #[vP, vQ, .int .i64 ((badB 0 l).1 : Int), .int .i64 ((badB 0 l).2 : Int)]) ∧ JK .u8 256 5 w' w.heap.size vP (plain l) ∧ JI w' w.heap.size vQ ((toldB 0 l).map Prod.fst) ∧ Below w.heap.size w w'
def Apart (v u : Value) : Prop := ∀ g, v.ownBlock = some g → u.ownBlock ≠ some g
/-- between two rounds -/
def LookInv (w : World) (l : List Nat) (at_ : Nat) (pt : List (Nat × Nat)) (wr : World) : Prop :=
  toldB 0 l = pt ++ toldB at_ (l.drop at_) ∧ badB 0 l = badB at_ (l.drop at_) ∧ (∃ vP vQ, Blk wr (w.heap.size + 1) 49 [vP, vQ, .int .i64 0, .int .i64 0] ∧ JK .u8 256 5 wr (w.heap.size + 2) vP (pt.map Prod.snd) ∧ JI wr (w.heap.size + 2) vQ (pt.map Prod.fst) ∧ Apart vP vQ) ∧ Blk wr w.heap.size 49 [.slice none 0 0, .slice none 0 0, .int .i64 0, .int .i64 0] ∧ Below w.heap.size w wr
theorem look_step {w wr w2 w3 : World} {l : List Nat} {at_ d1 d2 : Nat} {pt : List (Nat × Nat)} {vP vQ vP2 vQ2 : Value} {o1 o2 : Obj} {O4 : List Value}
    (hP : JK .u8 256 5 wr (w.heap.size + 2) vP (pt.map Prod.snd)) (hQ : JI wr (w.heap.size + 2) vQ (pt.map Prod.fst)) (hap : Apart vP vQ) (hR : Blk wr w.heap.size 49 O4) (hB : Below w.heap.size w wr)
    (hP2 : JK .u8 256 5 w2 (w.heap.size + 2) vP2 (pt.map Prod.snd ++ [d1])) (hg2 : (wr.alloc o1).grownBy w2 vP.ownBlock) (hk2 : ∀ g, vP2.ownBlock = some g → vP.ownBlock = some g ∨ g = (wr.alloc o1).heap.size)
    (hQ4 : JI w3 (w.heap.size + 2) vQ2 (pt.map Prod.fst ++ [at_])) (hg3 : ((w2.setCell ⟨w.heap.size + 1, 0, none⟩ vP2).alloc o2).grownBy w3 vQ.ownBlock) (hk3 : ∀ g, vQ2.ownBlock = some g → vQ.ownBlock = some g ∨ g = ((w2.setCell ⟨w.heap.size + 1, 0, none⟩ vP2).alloc o2).heap.size)
    (hO4 : Blk w3 (w.heap.size + 1) 49 [vP2, vQ, .int .i64 0, .int .i64 0])
    (hok : toldB at_ (l.drop at_) = (at_, d1) :: toldB (at_ + d2) (l.drop (at_ + d2))) (hbk : badB at_ (l.drop at_) = badB (at_ + d2) (l.drop (at_ + d2))) (hto : toldB 0 l = pt ++ toldB at_ (l.drop at_)) (hba : badB 0 l = badB at_ (l.drop at_))
    (hn : O4 = [.slice none 0 0, .slice none 0 0, .int .i64 0, .int .i64 0] := by rfl) :
    LookInv w l (at_ + d2) (pt ++ [(at_, d1)]) (w3.setCell ⟨w.heap.size + 1, 1, none⟩ vQ2) := by
  subst hn
  have hs2 : (w2.setCell ⟨w.heap.size + 1, 0, none⟩ vP2).heap.size = w2.heap.size := by simp [World.setCell]
  have hs3 : (wr.alloc o1).heap.size = wr.heap.size + 1 := by simp
  have hQ2lt : ∀ g, vQ.ownBlock = some g → g < wr.heap.size := hQ.blk_lt
  have hPne : ∀ g, vP2.ownBlock = some g → g ≠ w.heap.size + 1 := fun g hg => by have := hP2.blk_ge g hg; omega
  have hPQ : ∀ g, vP2.ownBlock = some g → some g ≠ vQ.ownBlock := fun g hg e => by
    rcases hk2 g hg with h | h
    · exact hap g h e.symm
    · have := hQ2lt g e.symm; omega
  have hP3 : JK .u8 256 5 w3 (w.heap.size + 2) vP2 (pt.map Prod.snd ++ [d1]) :=
    ((hP2.setO (p := ⟨w.heap.size + 1, 0, none⟩) (fun g hg => hPne g hg) vP2).keepAll ((Below.refl _ _).alloc (Nat.le_refl _) o2)).grownO hg3 hPQ
  refine ⟨by rw [hto, hok, List.append_assoc]; rfl, by rw [hba, hbk], ⟨vP2, vQ2, hO4.set (j := 1) vQ2, ?_, ?_, ?_⟩, ?_, ?_⟩
  · rw [List.map_append]; exact hP3.setO (p := ⟨w.heap.size + 1, 1, none⟩) (fun g hg => hPne g hg) _
  · rw [List.map_append]; exact hQ4.setO (p := ⟨w.heap.size + 1, 1, none⟩) (fun g hg => by have := hQ4.blk_ge g hg; show g ≠ w.heap.size + 1; omega) _
  · intro g hg e
    rcases hk3 g e with h | h
    · exact hPQ g hg h.symm
    · have := hP2.blk_lt g hg
      rw [World.size_alloc, hs2] at h
      have hw := hg3.size
      omega
  · refine Blk.other ?_ (p := ⟨w.heap.size + 1, 1, none⟩) (by simp) _
    refine Blk.grown ?_ hg3 (fun e => by have := hQ.blk_ge _ e.symm; omega)
    refine Blk.alloc ?_ _
    refine Blk.other ?_ (p := ⟨w.heap.size + 1, 0, none⟩) (by simp) _
    exact (hR.alloc o1).grown hg2 (fun e => by have := hP.blk_ge _ e.symm; omega)
  · have b2 : Below w.heap.size w w2 := (hP.keepAll ((Below.refl _ _).alloc (Nat.le_refl _) o1)).grown (hB.alloc hB.size o1) (by omega) (by have := hB.size; simp; omega) hg2
    have b3 : Below w.heap.size w ((w2.setCell ⟨w.heap.size + 1, 0, none⟩ vP2).alloc o2) := (b2.setCell (p := ⟨w.heap.size + 1, 0, none⟩) (by simp) _).alloc (by rw [hs2]; exact b2.size) _
    have b4 : Below w.heap.size w w3 := b3.grown hg3 (by rw [World.size_alloc, hs2]; have := b2.size; omega) (fun q hq => by have := hQ.blk_ge q hq; omega)
    exact b4.setCell (p := ⟨w.heap.size + 1, 1, none⟩) (by simp) _
def sets (w : World) (O : Nat) : List (Nat × Value) → World
  | [] => w
  | (j, v) :: r => sets (w.setCell ⟨O, j, none⟩ v) O r
theorem look_end {w wr : World} {l : List Nat} {pt : List (Nat × Nat)} {aP aQ : Option Addr} {cP cQ : Nat} {q1 q2 : Value} {d1 d2 : Nat} {cs : List (Nat × Value)}
    (hP : JK .u8 256 5 wr (w.heap.size + 2) (.slice aP pt.length cP) (pt.map Prod.snd)) (hQ : JI wr (w.heap.size + 2) (.slice aQ pt.length cQ) (pt.map Prod.fst)) (hB : Below w.heap.size w wr) (hto : toldB 0 l = pt) (hbd : badB 0 l = (d1, d2)) (hq1 : q1 = .int .i64 (d1 : Int) := by rfl) (hq2 : q2 = .int .i64 (d2 : Int) := by rfl) :
    LookPost w l (.returned (.agg #[.slice aP pt.length cP, .slice aQ pt.length cQ, q1, q2])) (sets (sets wr (w.heap.size + 1) cs) w.heap.size [(0, .slice aP pt.length cP), (1, .slice aQ pt.length cQ), (2, q1), (3, q2)]) := by
  subst hq1 hq2
  have key : ∀ (O : Nat) (cs : List (Nat × Value)) (wr : World), w.heap.size ≤ O → O < w.heap.size + 2 → JK .u8 256 5 wr (w.heap.size + 2) (.slice aP pt.length cP) (pt.map Prod.snd) → JI wr (w.heap.size + 2) (.slice aQ pt.length cQ) (pt.map Prod.fst) → Below w.heap.size w wr →
      JK .u8 256 5 (sets wr O cs) (w.heap.size + 2) (.slice aP pt.length cP) (pt.map Prod.snd) ∧ JI (sets wr O cs) (w.heap.size + 2) (.slice aQ pt.length cQ) (pt.map Prod.fst) ∧ Below w.heap.size w (sets wr O cs) := by
    intro O cs
    induction cs with
    | nil => intro wr _ _ h1 h2 h3; exact ⟨h1, h2, h3⟩
    | cons x r ih =>
      obtain ⟨j, v⟩ := x
      intro wr hO1 hO2 h1 h2 h3
      refine ih _ hO1 hO2 (h1.setO (p := ⟨O, j, none⟩) (fun g hg => ?_) v) (h2.setO (p := ⟨O, j, none⟩) (fun g hg => ?_) v) (h3.setCell (p := ⟨O, j, none⟩) hO1 v)
      · have := h1.blk_ge g hg; show g ≠ O; omega
      · have := h2.blk_ge g hg; show g ≠ O; omega
  obtain ⟨a1, a2, a3⟩ := key (w.heap.size + 1) cs wr (by omega) (by omega) hP hQ hB
  obtain ⟨b1, b2, b3⟩ := key w.heap.size [(0, .slice aP pt.length cP), (1, .slice aQ pt.length cQ), (2, .int .i64 (d1 : Int)), (3, .int .i64 (d2 : Int))] _ (by omega) (by omega) a1 a2 a3
  refine ⟨_, _, by rw [hbd], ?_, ?_, b3⟩
  · unfold plain; rw [hto]; exact ⟨b1.1, b1.2.1, by rcases b1.2.2 with h | ⟨g, cap, cur, h1, h2, h3⟩; exact .inl h; exact .inr ⟨g, cap, cur, h1, by omega, h3⟩⟩
  · rw [hto]; exact ⟨b2.1, b2.2.1, by rcases b2.2.2 with h | ⟨g, cap, cur, h1, h2, h3⟩; exact .inl h; exact .inr ⟨g, cap, cur, h1, by omega, h3⟩⟩
set_option maxRecDepth 100000 in
set_option maxHeartbeats 1000000 in
theorem look_row (b off c : Nat) (l : List Nat) (w : World) (hI : IsB w (.slice (some ⟨b, off, none⟩) l.length c) l) (hb : b < w.heap.size) (hm : l.length ≤ 1048576) :
    Calls Try.prog 21 #[.slice (some ⟨b, off, none⟩) l.length c] w (LookPost w l) := by
  have HI := hd hI
  have HBY := hd hI.1
  have HROW := hd hI.row
  clear hI
  go_enter Try.func21, Try.ntmps21
  go_wp2_with fail
  go_loopw [4] (fun i wr => ∃ (at_ : Nat) (pt : List (Nat × Nat)), at_ ≤ l.length ∧ i = .int .i64 (at_ : Int) ∧ LookInv w l at_ pt wr) (fun i _ => l.length - (intOf i).toNat)
  case atStart =>
    refine ⟨0, [], by omega, rfl, rfl, rfl, ⟨.slice none 0 0, .slice none 0 0, ?_, jk_nil _ _, jk_nil _ _, fun g hg => by cases hg⟩, ?_, ?_⟩
    · have := Blk.new (w.alloc (.cells #[.slice none 0 0, .slice none 0 0, .int .i64 0, .int .i64 0] 49)) 49 [.slice none 0 0, .slice none 0 0, .int .i64 0, .int .i64 0]
      rwa [World.size_alloc] at this
    · exact (Blk.new w 49 [.slice none 0 0, .slice none 0 0, .int .i64 0, .int .i64 0]).alloc _
    · exact ((Below.refl _ _).alloc (Nat.le_refl _) _).alloc (by simp) _
  case round =>
    obtain ⟨at_, pt, hat, rfl, hto, hba, ⟨vP, vQ, hO, hP, hQ, hap⟩, hR, hB⟩ := hrel
    have HTO := hd hto
    have HBA := hd hba
    have HO := hd hO
    have HP := hd hP
    have HQ := hd hQ
    have HAP := hd hap
    have HRB := hd hR
    have HB := hd hB
    obtain ⟨aP, cP, eP, hcP⟩ := hP.shape
    obtain ⟨aQ, cQ, eQ, hcQ⟩ := hQ.shape
    rw [List.length_map] at eP eQ hcP hcQ
    subst eP eQ
    clear hto hba hP hQ hap hB
    have o0 := hO.cell 0 _ rfl
    have o1 := hO.cell 1 _ rfl
    have o2 := hO.cell 2 (.int .i64 0) rfl
    have o3 := hO.cell 3 (.int .i64 0) rfl
    have f0 := hO.frozen
    have r0 := hR.cell 0 (.slice none 0 0) rfl
    have r1 := hR.cell 1 (.slice none 0 0) rfl
    have r2 := hR.cell 2 (.int .i64 0) rfl
    have r3 := hR.cell 3 (.int .i64 0) rfl
    have rf := hR.frozen
    clear hO hR
    by_cases hlt : at_ < l.length
    · have hlat : (l.drop at_).length = l.length - at_ := List.length_drop
      have hne0 : l.drop at_ ≠ [] := by intro e; have := congrArg List.length e; rw [hlat] at this; simp at this; omega
      have g0 : (l.drop at_).getD 0 0 = l.getD at_ 0 := by rw [List.getD_eq_getElem?_getD, List.getD_eq_getElem?_getD, List.getElem?_drop]; rfl
      have g1 : (l.drop at_).getD 1 0 = l.getD (at_ + 1) 0 := by rw [List.getD_eq_getElem?_getD, List.getD_eq_getElem?_getD, List.getElem?_drop]
      have F1 := @fs_1 (l.drop at_)
      have F2 := @fs_2 (l.drop at_)
      have F3 := @fs_3 (l.drop at_)
      have F4 := @fs_4 (l.drop at_)
      rw [g0] at F1 F2 F3 F4
      rw [g1] at F4
      rw [hlat] at F3 F4
      have hc : wr.cell? ⟨b, off + at_, none⟩ = some (.int .u8 ((l.getD at_ 0 : Nat) : Int)) := by rw [HB.out.cell hb]; exact HROW.out at_ hlt
      have hc1 : at_ + 1 < l.length → wr.cell? ⟨b, off + (at_ + 1), none⟩ = some (.int .u8 ((l.getD (at_ + 1) 0 : Nat) : Int)) := fun h => by rw [HB.out.cell hb]; exact HROW.out _ h
      have hx := getD_lt HBY.out at_
      have hy := getD_lt HBY.out (at_ + 1)
      generalize l.getD at_ 0 = x at *
      generalize l.getD (at_ + 1) 0 = y at *
      have HBADm := hd (fun (d : Nat) (h : (fs (l.drop at_)).2.2 = d) (hd0 : d ≠ 0) => (show badB 0 l = (d, at_) from by rw [HBA.out, badB_err hne0 (by rw [h]; exact hd0), h]))
      have HNTm := hd (fun (h : (fs (l.drop at_)).2.2 ≠ 0) => toldB_err (at_ := at_) h)
      have HOKm := hd (fun (d1 d2 : Nat) (h : fs (l.drop at_) = (d1, d2, 0)) => (show toldB at_ (l.drop at_) = (at_, d1) :: toldB (at_ + d2) (l.drop (at_ + d2)) ∧ badB at_ (l.drop at_) = badB (at_ + d2) (l.drop (at_ + d2)) from by
        have a1 := toldB_ok (at_ := at_) hne0 (by rw [h])
        have a2 := badB_ok (at_ := at_) hne0 (by rw [h])
        rw [h] at a1 a2
        simp only [List.drop_drop] at a1 a2
        exact ⟨a1, a2⟩))
      clear g0 g1 hne0 hlat
      by_cases c1 : x = 167
      · subst c1
        have hf := F1 rfl
        have HBD := hd (HBADm.out 31 (by rw [hf]) (by omega))
        have HNT := hd (HNTm.out (by rw [hf]; simp))
        clear F1 F2 F3 F4 hf HOKm HNTm HBADm
        go_wp2_with fail
        refine bodyPost_ret (results_cell_row rfl _ _ w.heap.size 49 #[.slice aP pt.length cP, .slice aQ pt.length cQ, .int .i64 31, .int .i64 (at_ : Int)] (0, 0) _ rfl ?_ Try.underlying49 rfl (by kernel_rfl)) rfl ?_
        · exact ((((((HRB.out.other (p := ⟨w.heap.size + 1, 2, none⟩) (by simp) _).other (p := ⟨w.heap.size + 1, 3, none⟩) (by simp) _).set (j := 0) _).set (j := 1) _).set (j := 2) _).set (j := 3) _)
        · exact look_end (cs := [(2, .int .i64 31), (3, .int .i64 (at_ : Int))]) HP.out HQ.out HB.out (by rw [HTO.out, HNT.out, List.append_nil]) HBD.out
      · by_cases c2 : x = 166
        · subst c2
          by_cases c3 : at_ + 1 = l.length
          · have hf := F3 rfl (by omega)
            have HBD := hd (HBADm.out 32 (by rw [hf]) (by omega))
            have HNT := hd (HNTm.out (by rw [hf]; simp))
            have hq : (((at_ : Int) + 1) == (l.length : Int)) = true := by simp; omega
            clear F1 F2 F3 F4 hf HOKm HNTm HBADm
            go_wp2_with fail
            refine bodyPost_ret (results_cell_row rfl _ _ w.heap.size 49 #[.slice aP pt.length cP, .slice aQ pt.length cQ, .int .i64 32, .int .i64 (at_ : Int)] (0, 0) _ rfl ?_ Try.underlying49 rfl (by kernel_rfl)) rfl ?_
            · exact ((((((HRB.out.other (p := ⟨w.heap.size + 1, 2, none⟩) (by simp) _).other (p := ⟨w.heap.size + 1, 3, none⟩) (by simp) _).set (j := 0) _).set (j := 1) _).set (j := 2) _).set (j := 3) _)
            · exact look_end (cs := [(2, .int .i64 32), (3, .int .i64 (at_ : Int))]) HP.out HQ.out HB.out (by rw [HTO.out, HNT.out, List.append_nil]) HBD.out
          · have hf := F4 rfl (by omega)
            have hc2 := hc1 (by omega)
            have hq : (((at_ : Int) + 1) == (l.length : Int)) = false := by simp; omega
            by_cases c4 : y = 0
            · subst c4
              have HOK := hd (HOKm.out 166 2 (by rw [hf]; rfl)).1
              have HBK := hd (HOKm.out 166 2 (by rw [hf]; rfl)).2
              have hle : at_ + 2 ≤ l.length := by omega
              clear F1 F2 F3 F4 hf HOKm HNTm HBADm hc1
              have hpl : pt.length + 1 ≤ l.length := by
                have h1 := toldB_len 0 l
                rw [HTO.out, HOK.out] at h1
                simp at h1; omega
              go_wp2_with (first
                | (at_builtin; refine wpList_append_jk Try.underlying22 info_u8 _ rfl _ _ rfl (w.heap.size + 2) (.slice aP pt.length cP) _ (pt.map Prod.snd) [166] rfl rfl (HP.out.keepAll ((Below.refl _ _).alloc (Nat.le_refl _) _)) (lit_isK .u8 256 wr #[.int .u8 166] 5 [166] 1 rfl rfl (by decide) (by simp [maxLen])) (pt.length + 1) (by simp) (pt.map Prod.snd ++ [166]) rfl (by omega) (by omega) (by have := HO.out.lt; simp; omega) ?_; intro aP2 cP2 w2 hP2 hg2 hk2 hc2; have hO2 := (HO.out.alloc (.cells #[.int .u8 166] 5)).grown hg2 (fun e => (by have := HP.out.blk_ge _ e.symm; omega)); have hQ2 := (HQ.out.keepAll ((Below.refl _ _).alloc (Nat.le_refl _) (.cells #[.int .u8 166] 5))).grownO hg2 (fun g hg e => HAP.out g e.symm hg); have o02 := hO2.cell 0 _ rfl; have o12 := hO2.cell 1 _ rfl; have f02 := hO2.frozen; have hQ3 := hQ2.setO (p := ⟨w.heap.size + 1, 0, none⟩) (fun g hg => (by have := HQ.out.blk_ge g hg; simp; omega)) (.slice aP2 (pt.length + 1) cP2))
                | (at_builtin; refine wpList_append_jk Try.underlying47 info_int _ rfl _ _ rfl (w.heap.size + 2) (.slice aQ pt.length cQ) (.slice (some ⟨w2.heap.size, 0, none⟩) 1 1) (pt.map Prod.fst) [at_] rfl rfl (hQ3.keepAll ((Below.refl _ _).alloc (Nat.le_refl _) _)) (lit_isK_at .i64 9223372036854775808 _ #[.int .i64 (at_ : Int)] 3 [at_] 1 w2.heap.size (by simp [World.setCell]) rfl rfl (by simp; omega) (by simp [maxLen])) (pt.length + 1) (by simp) (pt.map Prod.fst ++ [at_]) rfl (by omega) (by omega) (by have := hO2.lt; simp [World.setCell]; omega) ?_; intro aQ2 cQ2 w3 hQ4 hg3 hk3 hc3; have hO3 := (hO2.set (j := 0) (.slice aP2 (pt.length + 1) cP2)).alloc (.cells #[.int .i64 (at_ : Int)] 3); have hO4 := hO3.grown hg3 (fun e => (by have := hQ3.blk_ge _ e.symm; omega)); have o03 := hO4.cell 0 _ rfl; have o13 := hO4.cell 1 _ rfl; have f03 := hO4.frozen))
              have HFIN := hd (look_step (d1 := 166) (d2 := 2) HP.out HQ.out HAP.out HRB.out HB.out hP2 hg2 hk2 hQ4 hg3 hk3 hO4 HOK.out HBK.out HTO.out HBA.out)
              clear hpl
              go_roundw
              case rel => exact ⟨at_ + 2, pt ++ [(at_, 166)], by omega, by go_num, HFIN.out⟩
              case measure => simp [intOf]; omega
            · by_cases c5 : y = 1
              · subst c5
                have HOK := hd (HOKm.out 167 2 (by rw [hf]; rfl)).1
                have HBK := hd (HOKm.out 167 2 (by rw [hf]; rfl)).2
                have hle : at_ + 2 ≤ l.length := by omega
                clear F1 F2 F3 F4 hf HOKm HNTm HBADm hc1
                have hpl : pt.length + 1 ≤ l.length := by
                  have h1 := toldB_len 0 l
                  rw [HTO.out, HOK.out] at h1
                  simp at h1; omega
                go_wp2_with (first
                  | (at_builtin; refine wpList_append_jk Try.underlying22 info_u8 _ rfl _ _ rfl (w.heap.size + 2) (.slice aP pt.length cP) _ (pt.map Prod.snd) [167] rfl rfl (HP.out.keepAll ((Below.refl _ _).alloc (Nat.le_refl _) _)) (lit_isK .u8 256 wr #[.int .u8 167] 5 [167] 1 rfl rfl (by decide) (by simp [maxLen])) (pt.length + 1) (by simp) (pt.map Prod.snd ++ [167]) rfl (by omega) (by omega) (by have := HO.out.lt; simp; omega) ?_; intro aP2 cP2 w2 hP2 hg2 hk2 hc2; have hO2 := (HO.out.alloc (.cells #[.int .u8 167] 5)).grown hg2 (fun e => (by have := HP.out.blk_ge _ e.symm; omega)); have hQ2 := (HQ.out.keepAll ((Below.refl _ _).alloc (Nat.le_refl _) (.cells #[.int .u8 167] 5))).grownO hg2 (fun g hg e => HAP.out g e.symm hg); have o02 := hO2.cell 0 _ rfl; have o12 := hO2.cell 1 _ rfl; have f02 := hO2.frozen; have hQ3 := hQ2.setO (p := ⟨w.heap.size + 1, 0, none⟩) (fun g hg => (by have := HQ.out.blk_ge g hg; simp; omega)) (.slice aP2 (pt.length + 1) cP2))
                  | (at_builtin; refine wpList_append_jk Try.underlying47 info_int _ rfl _ _ rfl (w.heap.size + 2) (.slice aQ pt.length cQ) (.slice (some ⟨w2.heap.size, 0, none⟩) 1 1) (pt.map Prod.fst) [at_] rfl rfl (hQ3.keepAll ((Below.refl _ _).alloc (Nat.le_refl _) _)) (lit_isK_at .i64 9223372036854775808 _ #[.int .i64 (at_ : Int)] 3 [at_] 1 w2.heap.size (by simp [World.setCell]) rfl rfl (by simp; omega) (by simp [maxLen])) (pt.length + 1) (by simp) (pt.map Prod.fst ++ [at_]) rfl (by omega) (by omega) (by have := hO2.lt; simp [World.setCell]; omega) ?_; intro aQ2 cQ2 w3 hQ4 hg3 hk3 hc3; have hO3 := (hO2.set (j := 0) (.slice aP2 (pt.length + 1) cP2)).alloc (.cells #[.int .i64 (at_ : Int)] 3); have hO4 := hO3.grown hg3 (fun e => (by have := hQ3.blk_ge _ e.symm; omega)); have o03 := hO4.cell 0 _ rfl; have o13 := hO4.cell 1 _ rfl; have f03 := hO4.frozen))
                have HFIN := hd (look_step (d1 := 167) (d2 := 2) HP.out HQ.out HAP.out HRB.out HB.out hP2 hg2 hk2 hQ4 hg3 hk3 hO4 HOK.out HBK.out HTO.out HBA.out)
                clear hpl
                go_roundw
                case rel => exact ⟨at_ + 2, pt ++ [(at_, 167)], by omega, by go_num, HFIN.out⟩
                case measure => simp [intOf]; omega
              · rw [if_neg c4, if_neg c5] at hf
                have HBD := hd (HBADm.out 32 (by rw [hf]) (by omega))
                have HNT := hd (HNTm.out (by rw [hf]; simp))
                have hy1 : (1 : Int) < (y : Int) := by omega
                clear F1 F2 F3 F4 hf HOKm HNTm HBADm hc1
                go_wp2_with fail
                refine bodyPost_ret (results_cell_row rfl _ _ w.heap.size 49 #[.slice aP pt.length cP, .slice aQ pt.length cQ, .int .i64 32, .int .i64 (at_ : Int)] (0, 0) _ rfl ?_ Try.underlying49 rfl (by kernel_rfl)) rfl ?_
                · exact ((((((HRB.out.other (p := ⟨w.heap.size + 1, 2, none⟩) (by simp) _).other (p := ⟨w.heap.size + 1, 3, none⟩) (by simp) _).set (j := 0) _).set (j := 1) _).set (j := 2) _).set (j := 3) _)
                · exact look_end (cs := [(2, .int .i64 32), (3, .int .i64 (at_ : Int))]) HP.out HQ.out HB.out (by rw [HTO.out, HNT.out, List.append_nil]) HBD.out
        · have hf := F2 c1 c2
          have HOK := hd (HOKm.out x 1 hf).1
          have HBK := hd (HOKm.out x 1 hf).2
          have q1 : ((x : Int) == 167) = false := by simp; omega
          have q2 : ((x : Int) == 166) = false := by simp; omega
          clear F1 F2 F3 F4 hf HOKm HNTm HBADm hc1
          have hpl : pt.length + 1 ≤ l.length := by
            have h1 := toldB_len 0 l
            rw [HTO.out, HOK.out] at h1
            simp at h1; omega
          go_wp2_with (first
            | (at_builtin; refine wpList_append_jk Try.underlying22 info_u8 _ rfl _ _ rfl (w.heap.size + 2) (.slice aP pt.length cP) _ (pt.map Prod.snd) [x] rfl rfl (HP.out.keepAll ((Below.refl _ _).alloc (Nat.le_refl _) _)) (lit_isK .u8 256 wr #[.int .u8 ((x : Nat) : Int)] 5 [x] 1 rfl rfl (by simpa using hx) (by simp [maxLen])) (pt.length + 1) (by simp) (pt.map Prod.snd ++ [x]) rfl (by omega) (by omega) (by have := HO.out.lt; simp; omega) ?_; intro aP2 cP2 w2 hP2 hg2 hk2 hc2; have hO2 := (HO.out.alloc (.cells #[.int .u8 ((x : Nat) : Int)] 5)).grown hg2 (fun e => (by have := HP.out.blk_ge _ e.symm; omega)); have hQ2 := (HQ.out.keepAll ((Below.refl _ _).alloc (Nat.le_refl _) (.cells #[.int .u8 ((x : Nat) : Int)] 5))).grownO hg2 (fun g hg e => HAP.out g e.symm hg); have o02 := hO2.cell 0 _ rfl; have o12 := hO2.cell 1 _ rfl; have f02 := hO2.frozen; have hQ3 := hQ2.setO (p := ⟨w.heap.size + 1, 0, none⟩) (fun g hg => (by have := HQ.out.blk_ge g hg; simp; omega)) (.slice aP2 (pt.length + 1) cP2))
            | (at_builtin; refine wpList_append_jk Try.underlying47 info_int _ rfl _ _ rfl (w.heap.size + 2) (.slice aQ pt.length cQ) (.slice (some ⟨w2.heap.size, 0, none⟩) 1 1) (pt.map Prod.fst) [at_] rfl rfl (hQ3.keepAll ((Below.refl _ _).alloc (Nat.le_refl _) _)) (lit_isK_at .i64 9223372036854775808 _ #[.int .i64 (at_ : Int)] 3 [at_] 1 w2.heap.size (by simp [World.setCell]) rfl rfl (by simp; omega) (by simp [maxLen])) (pt.length + 1) (by simp) (pt.map Prod.fst ++ [at_]) rfl (by omega) (by omega) (by have := hO2.lt; simp [World.setCell]; omega) ?_; intro aQ2 cQ2 w3 hQ4 hg3 hk3 hc3; have hO3 := (hO2.set (j := 0) (.slice aP2 (pt.length + 1) cP2)).alloc (.cells #[.int .i64 (at_ : Int)] 3); have hO4 := hO3.grown hg3 (fun e => (by have := hQ3.blk_ge _ e.symm; omega)); have o03 := hO4.cell 0 _ rfl; have o13 := hO4.cell 1 _ rfl; have f03 := hO4.frozen))
          have HFIN := hd (look_step (d1 := x) (d2 := 1) HP.out HQ.out HAP.out HRB.out HB.out hP2 hg2 hk2 hQ4 hg3 hk3 hO4 HOK.out HBK.out HTO.out HBA.out)
          clear hpl
          go_roundw
          case rel => exact ⟨at_ + 1, pt ++ [(at_, x)], by omega, by go_num, HFIN.out⟩
          case measure => simp [intOf]; omega
    · obtain rfl : at_ = l.length := by omega
      rw [List.drop_length] at HTO HBA
      go_wp2_with fail
      refine bodyPost_ret (results_cell_row rfl _ _ w.heap.size 49 #[.slice aP pt.length cP, .slice aQ pt.length cQ, .int .i64 0, .int .i64 0] (0, 0) _ rfl ?_ Try.underlying49 rfl (by kernel_rfl)) rfl ?_
      · exact ((((HRB.out.set (j := 0) _).set (j := 1) _).set (j := 2) _).set (j := 3) _)
      · exact look_end (cs := []) HP.out HQ.out HB.out (by rw [HTO.out, toldB_nil, List.append_nil]) (HBA.out.trans (badB_nil _))
set_option maxRecDepth 100000 in
set_option maxHeartbeats 1000000 in
theorem look_nil (a : Option Addr) (c : Nat) (w : World) : Calls Try.prog 21 #[.slice a 0 c] w (LookPost w []) := by
  go_enter Try.func21, Try.ntmps21
  go_wp2_with fail
  obtain ⟨w1, hw1⟩ : ∃ w1, w1 = ((w.alloc (.cells #[.slice none 0 0, .slice none 0 0, .int .i64 0, .int .i64 0] 49)).alloc (.cells #[.slice none 0 0, .slice none 0 0, .int .i64 0, .int .i64 0] 49)) := ⟨_, rfl⟩
  rw [← hw1]
  have hO : Blk w1 (w.heap.size + 1) 49 [.slice none 0 0, .slice none 0 0, .int .i64 0, .int .i64 0] := by
    have := Blk.new (w.alloc (.cells #[.slice none 0 0, .slice none 0 0, .int .i64 0, .int .i64 0] 49)) 49 [.slice none 0 0, .slice none 0 0, .int .i64 0, .int .i64 0]
    rw [World.size_alloc] at this
    rw [hw1]; exact this
  have hR : Blk w1 w.heap.size 49 [.slice none 0 0, .slice none 0 0, .int .i64 0, .int .i64 0] := by
    rw [hw1]; exact (Blk.new w 49 [.slice none 0 0, .slice none 0 0, .int .i64 0, .int .i64 0]).alloc _
  have hB : Below w.heap.size w w1 := by rw [hw1]; exact ((Below.refl _ _).alloc (Nat.le_refl _) _).alloc (by simp) _
  have HRB := hd hR
  have HB := hd hB
  clear hw1 hB
  go_loopw [4] (fun i wr => i = .int .i64 0 ∧ wr = w1) (fun _ _ => 0)
  case atStart => exact ⟨rfl, rfl⟩
  case round =>
    obtain ⟨rfl, rfl⟩ := hrel
    have o0 := hO.cell 0 _ rfl
    have o1 := hO.cell 1 _ rfl
    have o2 := hO.cell 2 (.int .i64 0) rfl
    have o3 := hO.cell 3 (.int .i64 0) rfl
    have f0 := hO.frozen
    have r0 := hR.cell 0 (.slice none 0 0) rfl
    have r1 := hR.cell 1 (.slice none 0 0) rfl
    have r2 := hR.cell 2 (.int .i64 0) rfl
    have r3 := hR.cell 3 (.int .i64 0) rfl
    have rf := hR.frozen
    clear hO hR
    go_wp2_with fail
    refine bodyPost_ret (results_cell_row rfl _ _ w.heap.size 49 #[.slice none 0 0, .slice none 0 0, .int .i64 0, .int .i64 0] (0, 0) _ rfl ?_ Try.underlying49 rfl (by kernel_rfl)) rfl ?_
    · exact ((((HRB.out.set (j := 0) _).set (j := 1) _).set (j := 2) _).set (j := 3) _)
    · exact look_end (pt := []) (cs := []) (jk_nil _ _) (jk_nil _ _) HB.out rfl rfl
theorem look_is (v : Value) (l : List Nat) (w : World) (h : IsB w v l) (hm : l.length ≤ 1048576) : Calls Try.prog 21 #[v] w (LookPost w l) := by
  have h0 := h
  obtain ⟨hl, _, ⟨rfl, a, c, rfl⟩ | ⟨b, off, c, rfl, h1, _, hb, hr⟩⟩ := h
  · exact look_nil a c w
  · exact look_row b off c l w h0 hb hm
end Vt
end Go.Proofs.Ytipopjhmjdnnlaa
