/-
  PROVED: for all numbers l and texts b, of bulk at most 1048576, the Go law VintSplit answers true and changes nothing that came in: what is told of two lists laid one behind the other.
-/
import Derived.Test.YtdmgcblbjjggbaaI1
import Derived.Test.YtdmgcblbjjggbaaU3
import Derived.JoinedCond
namespace Go.Proofs.Ytdmgcblbjjggbaa
open Go.ChangeShapes Go.WideShapes Go.ChangeAt Go.RowKit Go.Shelf
namespace Split
open Vt
attribute [local go_sem] Oper.semAt_some
attribute [local go_sem ↓] append_hide
/-- the numbers with their places -/
def plc : Nat → List Nat → List (Nat × Nat)
  | _, [] => []
  | p, x :: r => (p, x) :: plc (p + (vrt x).length) r
def sh (q : Nat) (x : Nat × Nat) : Nat × Nat := (q + x.1, x.2)
theorem alls_shift (f : Nat) : ∀ (q at_ : Nat) (l : List Nat), alls f (q + at_) l = (alls f at_ l).map (sh q) := by
  induction f with
  | zero => intro q at_ l; rfl
  | succ f ih =>
    intro q at_ l
    unfold alls
    by_cases h : l = []
    · rw [if_pos h, if_pos h]; rfl
    · rw [if_neg h, if_neg h]
      by_cases he : (dec l).2.2 = 0
      · rw [if_pos he, if_pos he, Nat.add_assoc, ih, List.map_cons]; rfl
      · rw [if_neg he, if_neg he]; rfl
theorem allB_shift (q : Nat) (l : List Nat) : allB q l = (allB 0 l).map (sh q) := by
  have := alls_shift l.length q 0 l
  rwa [Nat.add_zero] at this
theorem allB_enc {l : List Nat} (h : N64 l) (r : List Nat) : ∀ p, allB p (enc l ++ r) = plc p l ++ allB (p + (enc l).length) r := by
  induction l with
  | nil => intro p; rfl
  | cons x q ih =>
    intro p
    have hx := h x List.mem_cons_self
    have hd := dec_vrt hx (enc q ++ r)
    have hne : vrt x ++ (enc q ++ r) ≠ [] := by
      have := vrt_len x
      intro e
      have := congrArg List.length e
      rw [List.length_append, List.length_nil] at this
      omega
    rw [enc_cons, List.append_assoc, allB_ok hne (by rw [hd]), hd, plc]
    simp only
    rw [List.drop_left' rfl, ih (fun y hy => h y (List.mem_cons_of_mem _ hy)), List.length_append, Nat.add_assoc]; rfl
theorem plc_len (p : Nat) (l : List Nat) : (plc p l).length = l.length := by
  induction l generalizing p with
  | nil => rfl
  | cons x r ih => simp [plc, ih]
theorem plc_at (p : Nat) (l : List Nat) (k : Nat) (hk : k < l.length) : (plc p l)[k]? = some (p + (enc (l.take k)).length, l.getD k 0) := by
  induction l generalizing p k with
  | nil => simp at hk
  | cons x r ih =>
    cases k with
    | zero => simp [plc, enc_nil]
    | succ k =>
      rw [plc, List.getElem?_cons_succ, ih _ k (by simpa using hk), List.take_succ_cons, enc_cons, List.length_append, List.getD_cons_succ, Nat.add_assoc]
theorem plc_succ (l : List Nat) (k : Nat) (hk : k < l.length) : (plc 0 l).take (k + 1) = (plc 0 l).take k ++ [((enc (l.take k)).length, l.getD k 0)] := by
  have h := plc_at 0 l k hk
  rw [Nat.zero_add] at h
  have hk2 : k < (plc 0 l).length := by rw [plc_len]; exact hk
  rw [List.getElem?_eq_getElem hk2] at h
  injection h with h
  rw [List.take_succ_eq_append_getElem hk2, h]
theorem size_at (X : World) (N x : Nat) (hx : x < 18446744073709551616) (hc : X.cell? ⟨N, 0, none⟩ = some (.int .u64 (x : Int))) :
    Calls Try.prog 9 #[.slice (some ⟨N, 0, none⟩) 1 1] X fun e w' => e = .returned (.int .i64 (((vrt x).length : Nat) : Int)) ∧ w' = X := by
  have := size_row N 0 1 [x] X (by intro y hy; simp at hy; omega) (by
    intro i hi
    match i, hi with
    | 0, _ => exact hc) (by simp)
  rwa [enc_one] at this
abbrev JU := JK .u64 18446744073709551616 29
theorem info_u64 : (Try.prog.info? 29).map (fun i => (i.zero, i.size, i.bytes)) = some (some (.int .u64 0), 1, 8) := by kernel_rfl
abbrev JI := JK .i64 9223372036854775808 3
/-- the set that the loops keep: all below N, and the two boxes of the iterators -/
def SS (N : Nat) (g : Nat) : Prop := g < N ∨ g = N + 2 ∨ g = N + 3
/-- between two rounds: what has been put down -/
def LoopInv (N : Nat) (w6 : World) (T : List (Nat × Nat)) (W : World) : Prop :=
  (∃ vT vU, Boxed W N 25 vT ∧ Boxed W (N + 1) 22 vU ∧ JI W (N + 4) vT (T.map Prod.fst) ∧ JU W (N + 4) vU (T.map Prod.snd)) ∧ KeepS (SS N) w6 W
theorem grown_drew {W W' : World} {row : Option Nat} (h : W.drew.grownBy W' row) : W.grownBy W' row := ⟨h.os, h.tape, h.output, h.size, h.block⟩
theorem ss_lt {N : Nat} {W : World} (h : N + 4 ≤ W.heap.size) : ∀ g, SS N g → g < W.heap.size := by
  intro g hg
  unfold SS at hg
  omega
/-- a place and a number are put down -/
theorem split_step {w6 wr w2 w3 : World} {N q x : Nat} {T : List (Nat × Nat)} {vT vU vT2 vU2 : Value} {o1 o2 : Obj}
    (hs6 : N + 4 ≤ w6.heap.size) (bt : Boxed wr N 25 vT) (bu : Boxed wr (N + 1) 22 vU) (jt : JI wr (N + 4) vT (T.map Prod.fst)) (ju : JU wr (N + 4) vU (T.map Prod.snd)) (hS : KeepS (SS N) w6 wr)
    (jt2 : JI w2 (N + 4) vT2 (T.map Prod.fst ++ [q])) (hg2 : (wr.alloc o1).grownBy w2 vT.ownBlock)
    (ju3 : JU w3 (N + 4) vU2 (T.map Prod.snd ++ [x])) (hg3 : ((w2.setCell ⟨N, 0, none⟩ vT2).alloc o2).grownBy w3 vU.ownBlock) :
    LoopInv N w6 (T ++ [(q, x)]) (w3.setCell ⟨N + 1, 0, none⟩ vU2) := by
  have hsr := hS.size
  have hs2 := hg2.size
  rw [World.size_alloc] at hs2
  have hsc : (w2.setCell ⟨N, 0, none⟩ vT2).heap.size = w2.heap.size := by simp [World.setCell]
  have hs3 := hg3.size
  rw [World.size_alloc, hsc] at hs3
  have nT : ∀ g, vT.ownBlock = some g → N + 4 ≤ g := jt.blk_ge
  have nU : ∀ g, vU.ownBlock = some g → N + 4 ≤ g := ju.blk_ge
  have jta := jt.keepAll ((Below.refl _ _).alloc (Nat.le_refl _) o1)
  have jua := ju.keepAll ((Below.refl _ _).alloc (Nat.le_refl _) o1)
  have bt2 : Boxed w2 N 25 vT := box_row bt jt hg2 (by decide)
  have bu2 : Boxed w2 (N + 1) 22 vU := box_row bu jt hg2 (by decide)
  have ju2 : JU (w2.setCell ⟨N, 0, none⟩ vT2) (N + 4) vU (T.map Prod.snd) :=
    (jua.grownO hg2 (jua.apart jta (by decide))).setO (p := ⟨N, 0, none⟩) (fun g hg => by have := nU g hg; show g ≠ N; omega) _
  have jt3 : JI (w2.setCell ⟨N, 0, none⟩ vT2) (N + 4) vT2 (T.map Prod.fst ++ [q]) :=
    jt2.setO (p := ⟨N, 0, none⟩) (fun g hg => by have := jt2.blk_ge g hg; show g ≠ N; omega) _
  have jt4 := jt3.keepAll ((Below.refl _ _).alloc (Nat.le_refl _) o2)
  have ju4 := ju2.keepAll ((Below.refl _ _).alloc (Nat.le_refl _) o2)
  have bt3 : Boxed (w2.setCell ⟨N, 0, none⟩ vT2) N 25 vT2 := bt2.set _
  have bu3 : Boxed (w2.setCell ⟨N, 0, none⟩ vT2) (N + 1) 22 vU := bu2.other (by omega) _
  refine ⟨⟨vT2, vU2, ?_, ?_, ?_, ?_⟩, ?_⟩
  · exact (box_row bt3 ju2 hg3 (by decide)).other (by omega) _
  · exact (box_row bu3 ju2 hg3 (by decide)).set _
  · rw [List.map_append]
    exact (jt4.grownO hg3 (jt4.apart ju4 (by decide))).setO (p := ⟨N + 1, 0, none⟩) (fun g hg => by have := jt2.blk_ge g hg; show g ≠ N + 1; omega) _
  · rw [List.map_append]
    exact ju3.setO (p := ⟨N + 1, 0, none⟩) (fun g hg => by have := ju3.blk_ge g hg; show g ≠ N + 1; omega) _
  · have k1 : KeepS (SS N) w6 w2 := (hS.alloc (ss_lt (by omega)) o1).grown hg2 (ss_lt (by rw [World.size_alloc]; omega)) (fun g e h => by have := nT g e; unfold SS at h; omega)
    have k2 : KeepS (SS N) w6 (w2.setCell ⟨N, 0, none⟩ vT2) := k1.setCell (p := ⟨N, 0, none⟩) (fun h => by have h' : N < N ∨ N = N + 2 ∨ N = N + 3 := h; omega) _
    have k3 : KeepS (SS N) w6 w3 := (k2.alloc (ss_lt (by rw [hsc]; omega)) o2).grown hg3 (ss_lt (by rw [World.size_alloc, hsc]; omega)) (fun g e h => by have := nU g e; unfold SS at h; omega)
    exact k3.setCell (p := ⟨N + 1, 0, none⟩) (fun h => by have h' : N + 1 < N ∨ N + 1 = N + 2 ∨ N + 1 = N + 3 := h; omega) _
/-- .. and all else lies as it lay -/
theorem split_keeps {wr w2 w3 : World} {N : Nat} {lt lu : List Nat} {vT vU vT2 vU2 : Value} {o1 o2 : Obj} (hs : N + 4 ≤ wr.heap.size)
    (jt : JI wr (N + 4) vT lt) (ju : JU wr (N + 4) vU lu) (hg2 : (wr.alloc o1).grownBy w2 vT.ownBlock) (hg3 : ((w2.setCell ⟨N, 0, none⟩ vT2).alloc o2).grownBy w3 vU.ownBlock) :
    KeepsOthers wr (w3.setCell ⟨N + 1, 0, none⟩ vU2) ∧ KeepS (SS N) wr (w3.setCell ⟨N + 1, 0, none⟩ vU2) := by
  have hs2 := hg2.size
  rw [World.size_alloc] at hs2
  have hsc : (w2.setCell ⟨N, 0, none⟩ vT2).heap.size = w2.heap.size := by simp [World.setCell]
  have hs3 := hg3.size
  rw [World.size_alloc, hsc] at hs3
  have nT : ∀ g, vT.ownBlock = some g → N + 4 ≤ g := jt.blk_ge
  have nU : ∀ g, vU.ownBlock = some g → N + 4 ≤ g := ju.blk_ge
  have jta := jt.keepAll ((Below.refl _ _).alloc (Nat.le_refl _) o1)
  have jua := ju.keepAll ((Below.refl _ _).alloc (Nat.le_refl _) o1)
  have ju2 : JU (w2.setCell ⟨N, 0, none⟩ vT2) (N + 4) vU lu :=
    (jua.grownO hg2 (jua.apart jta (by decide))).setO (p := ⟨N, 0, none⟩) (fun g hg => by have := nU g hg; show g ≠ N; omega) _
  have ju4 := ju2.keepAll ((Below.refl _ _).alloc (Nat.le_refl _) o2)
  refine ⟨?_, ?_⟩
  · refine (KeepsOthers.alloc wr o1).trans ((others_row jta hg2).trans ((KeepsOthers.setCell _ _ _).trans ((KeepsOthers.alloc _ o2).trans ((others_row ju4 hg3).trans (KeepsOthers.setCell _ _ _)))))
  · have k1 : KeepS (SS N) wr w2 := ((KeepS.refl wr).alloc (ss_lt (by omega)) o1).grown hg2 (ss_lt (by rw [World.size_alloc]; omega)) (fun g e h => by have := nT g e; unfold SS at h; omega)
    have k2 : KeepS (SS N) wr (w2.setCell ⟨N, 0, none⟩ vT2) := k1.setCell (p := ⟨N, 0, none⟩) (fun h => by have h' : N < N ∨ N = N + 2 ∨ N = N + 3 := h; omega) _
    have k3 : KeepS (SS N) wr w3 := (k2.alloc (ss_lt (by rw [hsc]; omega)) o2).grown hg3 (ss_lt (by rw [World.size_alloc, hsc]; omega)) (fun g e h => by have := nU g e; unfold SS at h; omega)
    exact k3.setCell (p := ⟨N + 1, 0, none⟩) (fun h => by have h' : N + 1 < N ∨ N + 1 = N + 2 ∨ N + 1 = N + 3 := h; omega) _
theorem LoopInv.alloc {w6 W : World} {N : Nat} {T : List (Nat × Nat)} (h : LoopInv N w6 T W) (hs6 : N + 4 ≤ w6.heap.size) (o : Obj) : LoopInv N w6 T (W.alloc o) := by
  obtain ⟨⟨vT, vU, bt, bu, jt, ju⟩, hS⟩ := h
  exact ⟨⟨vT, vU, bt.alloc o, bu.alloc o, jt.keepAll ((Below.refl _ _).alloc (Nat.le_refl _) o), ju.keepAll ((Below.refl _ _).alloc (Nat.le_refl _) o)⟩, hS.alloc (ss_lt (by have := hS.size; omega)) o⟩
theorem ownFrom_loop {β : Type} {B N : Nat} {w6 : World} (f : β → List (Nat × Nat)) (hs6 : N + 4 ≤ w6.heap.size) (hB : N + 4 ≤ B) : OwnFrom B (fun s W => LoopInv N w6 (f s) W) := by
  intro s W W' row hs hg hr
  obtain ⟨⟨vT, vU, bt, bu, jt, ju⟩, hS⟩ := hs
  have hr' : ∀ r, row = some r → ∃ o : Obj, W.heap[r]? = some o ∧ o.isCells = false := fun r e => (hr r e).2
  exact ⟨⟨vT, vU, Boxed.keptO bt hg hr', Boxed.keptO bu hg hr', jt.kept hg hr', ju.kept hg hr'⟩, hS.grown hg (ss_lt (by have := hS.size; omega)) (fun g e h => by have := (hr g e).1; have := ss_lt (W := w6) hs6 g h; unfold SS at h; omega)⟩
theorem LoopInv.drew {w6 W : World} {N : Nat} {T : List (Nat × Nat)} (h : LoopInv N w6 T W) : LoopInv N w6 T W.drew := by
  obtain ⟨⟨vT, vU, bt, bu, jt, ju⟩, hS⟩ := h
  exact ⟨⟨vT, vU, bt, bu, jt, ju⟩, hS.drew⟩
set_option maxRecDepth 100000 in
set_option maxHeartbeats 4000000 in
theorem walkB (v u : Value) (l b : List Nat) (w : World) (hN : IsN w v l) (hI : IsB w u b) (hm : l.length + b.length ≤ 1048576) :
    Calls Try.prog 3 #[v, u] w fun e w' => e = .returned (.bool true) ∧ Below w.heap.size w w' := by
  have HN := hd hN
  have HI := hd hI
  obtain ⟨an, cn, rfl⟩ := hN.shape
  obtain ⟨a, c, rfl⟩ := hI.shape
  have henc := enc_len hN.1
  clear hN hI
  refine (callsIn_wide (n := 8)).1 ?_
  refine callsIn_of_wp_marks Try.func3 rfl trivial (Code.wpIn_mono bodyPostF_M ?_) rfl
  simp only [Try.ntmps3, List.size_toArray, List.length_cons, List.length_nil, Nat.reduceAdd, Nat.reduceSub, Array.replicate_succ, Array.replicate_zero, List.push_toArray, List.append_toArray, List.nil_append, List.cons_append]
  gi_wp2
  obtain ⟨W0, hW0⟩ : ∃ W0, W0 = w.alloc (.cells #[.bool false] 4) := ⟨_, rfl⟩
  have hs0 : W0.heap.size = w.heap.size + 1 := by rw [hW0]; simp
  have hb0 : Below w.heap.size w W0 := by rw [hW0]; exact (Below.refl _ _).alloc (Nat.le_refl _) _
  have BR0 : Hid (Boxed W0 w.heap.size 4 (.bool false)) := by rw [hW0]; exact Boxed.new w 4 _
  rw [← hW0]
  refine ⟨trivial, CallsIn.mono (callsIn_wide.2 (encode_is _ l W0 (HN.out.below hb0) (by omega))) ?_⟩
  rintro e w1 ⟨rfl, hj1, hb1⟩
  have HB1 := hd (hb0.trans (hb1.mono hb0.size))
  have BR1 := hd (boxed_below BR0.out BR0.out.lt hb1)
  have hs1 := hj1.buf.2.2.1
  rw [hs0] at hj1 hs1 ⊢
  have HJ1 := hd hj1
  obtain ⟨L, hL⟩ : ∃ L, L = (enc l).length := ⟨_, rfl⟩
  have HL := hd hL
  rw [← hL] at HJ1 henc ⊢
  clear hW0 hb0 BR0 hb1 hs0 hL hj1
  have tok1 : True := trivial
  obtain ⟨W1, hW1⟩ : ∃ W1, W1 = w1.alloc (.cells #[.slice (some ⟨w.heap.size + 1, 0, none⟩) L L] 23) := ⟨_, rfl⟩
  have hsW1 : W1.heap.size = w1.heap.size + 1 := by rw [hW1]; simp
  have hbW1 : Below w1.heap.size w1 W1 := by rw [hW1]; exact (Below.refl _ _).alloc (Nat.le_refl _) _
  have BA1 : Hid (Boxed W1 w1.heap.size 23 (.slice (some ⟨w.heap.size + 1, 0, none⟩) L L)) := by rw [hW1]; exact Boxed.new _ _ _
  have ca1 := BA1.out.cell
  have HE1 := hd (HJ1.out.isB.below hbW1)
  have HI1 := hd ((HI.out.below HB1.out).below hbW1)
  have HBW1 := hd (HB1.out.trans (hbW1.mono HB1.out.size))
  gi_wp2_with (first
    | (gi_at_builtin; have _t := tok1; rw [← hW1]; refine wpListIn_append_jk Try.underlying23 info_u8 _ rfl _ _ rfl W1.heap.size (.slice none 0 0) (.slice (some ⟨w.heap.size + 1, 0, none⟩) L L) [] (enc l) rfl rfl (jk_nil _ _) HE1.out L (by rw [HL.out]; simp) (enc l) rfl (by omega) (by omega) (Nat.le_refl _) ?_; intro a2 c2 w2 hj2 hg2 hk2 hc2; clear tok1; have tok2 : True := trivial; have hb2 := (jk_nil (k := .u8) (M := 256) (E := 5) W1 W1.heap.size).grown (Below.refl W1.heap.size W1) (Nat.le_refl _) (Nat.le_refl _) hg2)
    | (gi_at_builtin; have _t := tok2; refine wpListIn_append_jk Try.underlying23 info_u8 _ rfl _ _ rfl W1.heap.size (.slice a2 L c2) (.slice a b.length c) (enc l) b rfl rfl hj2 (HI1.out.below hb2) (L + b.length) (by rw [HL.out]) (enc l ++ b) rfl (by omega) (by omega) hb2.size ?_; intro a3 c3 w3 hj3 hg3 hk3 hc3; clear tok2))
  have hb3 := hj2.grown hb2 (Nat.le_refl _) hb2.size hg3
  have hs3 : w1.heap.size + 1 ≤ w3.heap.size := by have := hb3.size; omega
  obtain ⟨N, hNe⟩ : ∃ N, N = w3.heap.size := ⟨_, rfl⟩
  rw [← hNe]
  obtain ⟨W4, hW4⟩ : ∃ W4, W4 = ((w3.alloc (.cells #[.slice none 0 0] 25)).alloc (.cells #[.slice none 0 0] 22)) := ⟨_, rfl⟩
  rw [← hW4]
  have hs4 : W4.heap.size = N + 2 := by rw [hW4, hNe]; simp
  have hb34 : Below w3.heap.size w3 W4 := by rw [hW4]; exact ((Below.refl _ _).alloc (Nat.le_refl _) _).alloc (by simp) _
  have BT4 : Hid (Boxed W4 N 25 (.slice none 0 0)) := by rw [hW4, hNe]; exact (Boxed.new w3 25 _).alloc _
  have BU4 : Hid (Boxed W4 (N + 1) 22 (.slice none 0 0)) := by
    have := Boxed.new (w3.alloc (.cells #[.slice none 0 0] 25)) 22 (.slice none 0 0)
    rw [World.size_alloc, ← hNe] at this
    rw [hW4]; exact this
  have hb14 : Below W1.heap.size W1 W4 := hb3.trans (hb34.mono hb3.size)
  have BR4 := hd (boxed_below (boxed_below BR1.out BR1.out.lt hbW1) (by have := BR1.out.lt; omega) hb14)
  have BA4 := hd (boxed_below BA1.out BA1.out.lt hb14)
  have HW4 := hd (hj3.keepAll hb34)
  have HN4 := hd ((HN.out.below HBW1.out).below hb14)
  have HI4 := hd (HI1.out.below hb14)
  have HB4 := hd (HBW1.out.trans (hb14.mono HBW1.out.size))
  have HWL := hd hj3.blk_lt
  have HNL : Hid (∀ b off n c, Value.slice an l.length cn = .slice (some ⟨b, off, none⟩) n c → b < N ∨ l = []) := by
    intro b off n c e
    obtain ⟨_, _, ⟨rfl, _⟩ | ⟨nb, no, nc, e1, _, _, hnb, hnr⟩⟩ := HN.out
    · exact .inr rfl
    · rw [e] at e1; injection e1 with e1 e2 e3; injection e1 with e1; injection e1 with e1 e4; left; omega
  have HIL : Hid (∀ b0 off n c0, b ≠ [] → Value.slice a b.length c = .slice (some ⟨b0, off, none⟩) n c0 → b0 < w.heap.size) := by
    intro b0 off n c0 hne e
    obtain ⟨_, _, ⟨rfl, _⟩ | ⟨nb, no, nc, e1, _, _, hnb, hnr⟩⟩ := HI.out
    · exact absurd rfl hne
    · rw [e] at e1; injection e1 with e1 e2 e3; injection e1 with e1; injection e1 with e1 e4; omega
  rw [← hNe] at HWL hs3
  clear hNe
  clear hj2 hg2 hk2 hc2 hb2 hj3 hg3 hk3 hb3 hW4 hb34 hb14 hW1 hbW1 BA1 ca1 HE1 HI1 HBW1 HJ1 BR1 HB1
  refine ⟨trivial, CallsIn.mono (callsIn_wide.2 (all_is _ _ _ W4)) ?_⟩
  rintro e w5 ⟨rfl, hw5⟩
  rw [hs4]
  have hs5 : w5.heap.size = N + 3 := by rw [hw5]; simp; omega
  have hb45 : Below W4.heap.size W4 w5 := by rw [hw5]; exact (Below.refl _ _).alloc (Nat.le_refl _) _
  have BS5 : Hid (Boxed w5 (N + 2) 23 (.slice a b.length c)) := by rw [← hs4, hw5]; exact Boxed.new _ _ _
  clear hw5
  gi_wp2
  refine ⟨trivial, CallsIn.mono (callsIn_wide.2 (all_is _ _ _ w5)) ?_⟩
  rintro e w6 ⟨rfl, hw6⟩
  rw [hs5]
  have hs6 : w6.heap.size = N + 4 := by rw [hw6]; simp; omega
  have hb56 : Below w5.heap.size w5 w6 := by rw [hw6]; exact (Below.refl _ _).alloc (Nat.le_refl _) _
  have BX6 : Hid (Boxed w6 (N + 3) 23 (.slice a3 (L + b.length) c3)) := by rw [← hs5, hw6]; exact Boxed.new _ _ _
  have hb46 : Below W4.heap.size W4 w6 := hb45.trans (hb56.mono hb45.size)
  have BS6 := hd (boxed_below BS5.out BS5.out.lt hb56)
  have BT6 := hd (boxed_below BT4.out BT4.out.lt hb46)
  have BU6 := hd (boxed_below BU4.out BU4.out.lt hb46)
  have BR6 := hd (boxed_below BR4.out BR4.out.lt hb46)
  have BA6 := hd (boxed_below BA4.out BA4.out.lt hb46)
  have HW6 := hd (HW4.out.keepAll hb46)
  have HN6 := hd (HN4.out.below hb46)
  have HI6 := hd (HI4.out.below hb46)
  have HB6 := hd (HB4.out.trans (hb46.mono HB4.out.size))
  clear hw6 hb45 hb56 hb46 BS5 BT4 BU4 BR4 BA4 HW4 HN4 HI4 HB4
  have hr1 : Sem.run Try.prog (binOp BinOp.eql 27 (Value.func (.func 26) #[] #[.pointer (some ⟨N + 2, 0, none⟩)]) Value.nilFunc) w6 = .ok (.bool false) w6 := by kernel_rfl
  have hr2 : Sem.run Try.prog (binOp BinOp.eql 27 (Value.func (.func 26) #[] #[.pointer (some ⟨N + 3, 0, none⟩)]) Value.nilFunc) w6 = .ok (.bool false) w6 := by kernel_rfl
  gi_wp2
  clear hr1 hr2
  gi_loopw [11, 12] (fun p i wr => ∃ k : Nat, k ≤ l.length ∧ i = .int .i64 (k : Int) ∧ p = .int .i64 (((enc (l.take k)).length : Nat) : Int) ∧ LoopInv N w6 ((plc 0 l).take k) wr) (fun _ i _ => l.length - (intOf i).toNat)
  case atStart => exact ⟨0, by omega, rfl, rfl, ⟨_, _, BT6.out, BU6.out, jk_nil _ _, jk_nil _ _⟩, KeepS.refl _⟩
  case round =>
    obtain ⟨k, hk, rfl, rfl, ⟨vT, vU, bt, bu, jt, ju⟩, hS⟩ := hrel
    have hlt2 : ((plc 0 l).take k).length = k := by rw [List.length_take, plc_len]; omega
    obtain ⟨aT, cT, eT, hcT⟩ := jt.shape
    obtain ⟨aU, cU, eU, hcU⟩ := ju.shape
    rw [List.length_map, hlt2] at eT eU hcT hcU
    subst eT eU
    have BT := hd bt
    have BU := hd bu
    have JT := hd jt
    have JUU := hd ju
    have HS := hd hS
    have ct := bt.cell
    have ft := bt.frozen
    have cu := bu.cell
    have fu := bu.frozen
    clear bt bu jt ju hS
    by_cases hlt : k < l.length
    · have hek := enc_len (N64.take HN6.out.1 k)
      rw [List.length_take] at hek
      have HPS := hd (plc_succ l k hlt)
      have HES := hd (enc_succ hlt)
      have hx := N64.at HN6.out.1 k
      obtain ⟨_, _, ⟨rfl, _⟩ | ⟨nb, no, nc, e, _, _, hnb, hnr⟩⟩ := HN6.out
      · simp at hlt
      · injection e with e1 e2 e3
        subst e1 e3
        have hnbN : nb < N := (HNL.out nb no _ _ rfl).resolve_right (fun e => by rw [e] at hlt; simp at hlt)
        have hcx : wr.cell? ⟨nb, no + k, none⟩ = some (.int .u64 ((l.getD k 0 : Nat) : Int)) := by
          rw [HS.out.cell (p := ⟨nb, no + k, none⟩) (Or.inl hnbN)]; exact hnr k hlt
        obtain ⟨p, hp⟩ : ∃ p, p = (enc (l.take k)).length := ⟨_, rfl⟩
        have HPE := hd hp
        rw [← hp] at hek ⊢
        generalize l.getD k 0 = x at *
        clear hp hnr hnb
        obtain ⟨LT, hLT⟩ : ∃ LT, LT = ((plc 0 l).take k).map Prod.fst := ⟨_, rfl⟩
        have hLTl : LT.length = k := by rw [hLT, List.length_map, hlt2]
        rw [← hLT] at JT
        have HLT := hd hLT
        clear hLT
        gi_wp2_with (gi_at_builtin; refine wpListIn_append_jk Try.underlying25 info_int _ rfl _ _ rfl (N + 4) (.slice aT k cT) (.slice (some ⟨wr.heap.size, 0, none⟩) 1 1) LT [p] rfl rfl (JT.out.keepAll ((Below.refl _ _).alloc (Nat.le_refl _) _)) (lit_isK_at .i64 9223372036854775808 wr #[.int .i64 (p : Int)] 3 [p] 1 wr.heap.size rfl rfl rfl (by simp; omega) (by simp [maxLen])) (k + 1) (by rw [hLTl]; rfl) (LT ++ [p]) rfl (by omega) (by omega) (by have := HS.out.size; simp; omega) ?_; intro aT2 cT2 w2 jt2 hg2 hk2 hc2; have bt2 := box_row BT.out JT.out hg2 (by decide); have ct2 := bt2.cell; have ft2 := bt2.frozen)
        have hs2 := hg2.size
        rw [World.size_alloc] at hs2
        have bu2 := box_row BU.out JT.out hg2 (by decide)
        have cu2 : (w2.setCell ⟨N, 0, none⟩ (.slice aT2 (k + 1) cT2)).cell? ⟨N + 1, 0, none⟩ = some (.slice aU k cU) := (bu2.other (by omega) _).cell
        have fu2 : (w2.setCell ⟨N, 0, none⟩ (.slice aT2 (k + 1) cT2)).frozen? ⟨N + 1, 0, none⟩ = false := (bu2.other (by omega) _).frozen
        have cx2 : (w2.setCell ⟨N, 0, none⟩ (.slice aT2 (k + 1) cT2)).cell? ⟨nb, no + k, none⟩ = some (.int .u64 (x : Int)) := by
          have hne : some nb ≠ (Value.slice aT k cT).ownBlock := fun e => by have := JT.out.blk_ge nb e.symm; omega
          rw [World.cell?_setCell_other _ _ _ _ (by intro e; injection e with e; omega), World.cell?_of_block (a := ⟨nb, no + k, none⟩) (hg2.block nb (by have := HS.out.size; simp; omega) hne), World.cell?_of_block (a := ⟨nb, no + k, none⟩) (Below.heap_alloc wr _ nb (by have := HS.out.size; omega))]; exact hcx
        obtain ⟨W2, hW2⟩ : ∃ W2, W2 = w2.setCell ⟨N, 0, none⟩ (.slice aT2 (k + 1) cT2) := ⟨_, rfl⟩
        rw [← hW2] at cu2 fu2 cx2 ⊢
        have HW2 := hd hW2
        clear hW2 ct2 ft2
        have hsW2 : W2.heap.size = w2.heap.size := by rw [HW2.out]; simp [World.setCell]
        obtain ⟨LU, hLU⟩ : ∃ LU, LU = ((plc 0 l).take k).map Prod.snd := ⟨_, rfl⟩
        have hLUl : LU.length = k := by rw [hLU, List.length_map, hlt2]
        rw [← hLU] at JUU
        have HLU := hd hLU
        clear hLU
        have ju2 : JU W2 (N + 4) (.slice aU k cU) LU := by
          rw [HW2.out]
          refine JK.setO ?_ (p := ⟨N, 0, none⟩) (fun g hg => by have := JUU.out.blk_ge g hg; show g ≠ N; omega) _
          exact (JUU.out.keepAll ((Below.refl _ _).alloc (Nat.le_refl _) _)).grownO hg2 (JUU.out.apart JT.out (by decide))
        obtain ⟨o1, ho1⟩ : ∃ o1 : Obj, o1 = .cells #[.int .u64 (x : Int)] 29 := ⟨_, rfl⟩
        obtain ⟨aU2, cU2, w3, hr3, ju3, hg3, hk3⟩ := run_append_jk Try.underlying22 info_u64 22 (W2.alloc o1).drew (N + 4) (.slice aU k cU) (.slice (some ⟨W2.heap.size, 0, none⟩) 1 1) LU [x] ((ju2.keepAll ((Below.refl _ _).alloc (Nat.le_refl _) _)).drew) (by rw [ho1]; exact lit_isK_at .u64 18446744073709551616 W2 #[.int .u64 (x : Int)] 29 [x] 1 W2.heap.size rfl rfl rfl (by simpa using hx) (by simp [maxLen])) (by simp; omega) (by simp; omega) (by have := HS.out.size; show N + 4 ≤ (W2.alloc o1).heap.size; simp; omega)
        rw [hLUl] at hr3 ju3 hk3
        rw [append_hide] at hr3
        have hr3' : Sem.run Try.prog (apH #[22, 22] 22 #[.slice aU k cU, .slice (some ⟨W2.heap.size, 0, none⟩) 1 1]) (W2.alloc (.cells #[.int .u64 (x : Int)] 29)).drew = .ok (.slice aU2 (k + 1) cU2) w3 := by rw [ho1] at hr3; exact hr3
        have bu3 : Boxed w3 (N + 1) 22 (.slice aU k cU) := by
          refine Boxed.kept ?_ hg3 (JK.not_box (B := N + 1) (t := 22) (u := .slice aU k cU) ?_ (by decide) ((ju2.keepAll ((Below.refl _ _).alloc (Nat.le_refl _) o1)).drew))
          · exact (show Boxed W2 (N + 1) 22 (.slice aU k cU) by rw [HW2.out]; exact bu2.other (by omega) _).alloc o1
          · exact (show Boxed W2 (N + 1) 22 (.slice aU k cU) by rw [HW2.out]; exact bu2.other (by omega) _).alloc o1
        have cu3 := bu3.cell
        have fu3 := bu3.frozen
        have hmx : Try.prog.follows .mixedOrders = true := by kernel_rfl
        have HSW2 := hd hsW2
        have cx3 : (w3.setCell ⟨N + 1, 0, none⟩ (.slice aU2 (k + 1) cU2)).cell? ⟨nb, no + k, none⟩ = some (.int .u64 (x : Int)) := by
          have hne : some nb ≠ (Value.slice aU k cU).ownBlock := fun e => by have := JUU.out.blk_ge nb e.symm; omega
          rw [World.cell?_setCell_other _ _ _ _ (by intro e; injection e with e; omega), World.cell?_of_block (a := ⟨nb, no + k, none⟩) (hg3.block nb (by have := HS.out.size; show nb < (W2.alloc o1).heap.size; simp; omega) hne)]
          show (W2.alloc o1).cell? _ = _
          rw [World.cell?_of_block (a := ⟨nb, no + k, none⟩) (Below.heap_alloc W2 _ nb (by have := HS.out.size; omega))]; exact cx2
        have cu2A : ∀ o, (W2.alloc o).cell? ⟨N + 1, 0, none⟩ = some (.slice aU k cU) := fun o => ((show Boxed W2 (N + 1) 22 (.slice aU k cU) by rw [HW2.out]; exact bu2.other (by omega) _).alloc o).cell
        clear hr3 hsW2
        have HFIN : Hid (LoopInv N w6 ((plc 0 l).take (k + 1)) (w3.setCell ⟨N + 1, 0, none⟩ (.slice aU2 (k + 1) cU2))) := by
          show LoopInv N w6 ((plc 0 l).take (k + 1)) _
          rw [HPS.out, ← HPE.out]
          rw [HLT.out] at jt2 JT
          rw [HLU.out] at ju3 JUU
          have hg3' := grown_drew hg3
          rw [HW2.out] at hg3'
          exact split_step (by omega) BT.out BU.out JT.out JUU.out HS.out jt2 hg2 ju3 hg3'
        gi_region_with_o (fail)
        all_goals (obtain ⟨W3, hW3⟩ : ∃ W3, W3 = w3.setCell ⟨N + 1, 0, none⟩ (.slice aU2 (k + 1) cU2) := ⟨_, rfl⟩)
        all_goals (rw [← hW3] at cx3 ⊢)
        all_goals (have HW3 := hd hW3; clear hW3 cu3 fu3 hr3' cu2 fu2 cx2 cu2A)
        all_goals gi_wp2
        all_goals (refine ⟨trivial, CallsIn.mono (callsIn_wide.2 (size_at _ _ x hx (by first | exact (Boxed.new _ _ _).cell | simp))) ?_⟩)
        all_goals (rintro e w' ⟨rfl, rfl⟩)
        all_goals gi_wp2
        all_goals (have h10 := vrt_ten hx)
        all_goals (have HWR : Hid (wrap64 ((p : Int) + ((vrt x).length : Int)) = (((enc (l.take (k + 1))).length : Nat) : Int)) := (by
          show wrap64 ((p : Int) + ((vrt x).length : Int)) = _
          rw [HES.out, List.length_append, ← HPE.out, show wrap64 ((p : Int) + ((vrt x).length : Int)) = (p : Int) + ((vrt x).length : Int) by (have := IntKind.wrap_i64 ((p : Int) + ((vrt x).length : Int)); simp only [wrap64]; omega)]
          rfl))
        all_goals go_roundw
        all_goals first
          | exact ⟨k + 1, by omega, by go_num, by rw [HWR.out], by rw [HW3.out]; exact HFIN.out.alloc (by omega) _⟩
          | (simp [intOf]; omega)
    · obtain rfl : k = l.length := by omega
      have hinv : LoopInv N w6 (plc 0 l) wr := by
        have h := (⟨⟨_, _, BT.out, BU.out, JT.out, JUU.out⟩, HS.out⟩ : LoopInv N w6 ((plc 0 l).take l.length) wr)
        rwa [List.take_of_length_le (by rw [plc_len]; omega)] at h
      have HINV := hd hinv
      have hsr : N + 4 ≤ wr.heap.size := by have := HS.out.size; omega
      clear hinv BT BU JT JUU ct ft cu fu hcT hcU hlt2 hlt hk
      gi_wp2
      have hSS2 : SS N (N + 2) := Or.inr (Or.inl rfl)
      have hbr : Below w.heap.size w6 wr := HS.out.below (fun g hg => Or.inl (by omega))
      have hIr := HI.out.below (HB6.out.trans hbr)
      have hseq := all_stops 7 (by omega) 1048576 (SS N) (N + 2) _ b wr (by omega) hSS2 (by omega) (boxed_keepS BS6.out hSS2 HS.out).cell hIr (by
        intro b0 off c0 hne e
        exact Or.inl (by have := HIL.out b0 off _ c0 hne e; omega))
      refine wpIn_rangeFunc_ownF rfl (by omega) (gf := 26) (lb := #[.pointer (some ⟨N + 2, 0, none⟩)]) rfl trivial (enters_of Try.func26 (by kernel_rfl) rfl) hseq keepS_t (keepS_b (ss_lt hsr)) (Below.refl _ _) (fun _ => rfl)
        (fun (pre : List (PN 1048576)) (W : World) => LoopInv N w6 (plc 0 l ++ (pre.map Subtype.val).map (sh L)) W)
        (fun _ _ _ => False)
        (ownFrom_loop (fun (pre : List (PN 1048576)) => plc 0 l ++ (pre.map Subtype.val).map (sh L)) (by omega) (by omega))
        (fun _ => fun _ _ _ _ h _ _ => h)
        (by rw [List.map_nil, List.map_nil, List.append_nil]; exact HINV.out)
        (fun x => { tmps := #[Value.slice an l.length cn, Value.slice a b.length c, undef, undef, Value.pointer (some { block := w.heap.size, off := 0 }), Value.pointer (some { block := w1.heap.size, off := 0 }), Value.slice a3 (L + b.length) c3, Value.pointer (some { block := N, off := 0 }), Value.pointer (some { block := N + 1, off := 0 }), Value.func (Fn.func 26) #[] #[Value.pointer (some { block := N + 2, off := 0 })], Value.func (Fn.func 26) #[] #[Value.pointer (some { block := N + 3, off := 0 })], Value.int IntKind.i64 ↑(enc l).length, Value.int IntKind.i64 ↑l.length, Value.int IntKind.i64 ↑x.val.fst, Value.int IntKind.u64 ↑x.val.snd, undef, undef, undef, Value.slice an l.length cn, Value.slice (some { block := w.heap.size + 1, off := 0 }) L L, Value.slice none 0 0, Value.slice (some { block := w.heap.size + 1, off := 0 }) L L, Value.slice a2 L c2, Value.slice a2 L c2, Value.slice a b.length c, Value.slice a3 (L + b.length) c3, Value.slice a b.length c, Value.func (Fn.func 26) #[] #[Value.pointer (some { block := N + 2, off := 0 })], Value.slice a3 (L + b.length) c3, Value.func (Fn.func 26) #[] #[Value.pointer (some { block := N + 3, off := 0 })], Value.func (Fn.func 26) #[] #[Value.pointer (some { block := N + 2, off := 0 })], Value.bool false, Value.bool false, Value.func (Fn.func 26) #[] #[Value.pointer (some { block := N + 3, off := 0 })], Value.bool false, Value.bool false, Value.int IntKind.i64 ↑l.length, Value.slice an l.length cn, Value.int IntKind.i64 ↑l.length, Value.bool false, u40, u41, u42, u43, u44, u45, u46, u47, u48, u49, u50, u51, u52, u53, u54, u55, u56, u57, u58, u59, u60, Value.func (Fn.func 26) #[] #[Value.pointer (some { block := N + 2, off := 0 })], Value.int IntKind.i64 ↑x.val.fst, Value.int IntKind.u64 ↑x.val.snd, undef, undef, undef, undef, undef, undef, undef, undef, undef, undef, undef, undef, undef, undef, undef, undef, undef, undef, undef, undef, undef, undef, undef, undef, undef, undef, undef, undef, undef, undef, undef, undef, undef, undef, undef, undef, undef, undef, undef, undef, undef, undef, undef], defers := [] }) ?assign ?body ?done ?stop
      case assign =>
        intro lk x W K hK
        gi_wp2
        exact hK
      case body =>
        rintro lk pre ⟨⟨x1, x2⟩, hx1, hx2⟩ W ⟨⟨vT, vU, bt, bu, jt, ju⟩, hS⟩ hlen
        have hx1' : x1 ≤ 1048576 := hx1
        have hx2' : x2 < 18446744073709551616 := hx2
        obtain ⟨T, hT⟩ : ∃ T, T = plc 0 l ++ (pre.map Subtype.val).map (sh L) := ⟨_, rfl⟩
        have HTE := hd hT
        obtain ⟨k, hke⟩ : ∃ k, k = T.length := ⟨_, rfl⟩
        have hkl : k = l.length + pre.length := by rw [hke, hT, List.length_append, plc_len, List.length_map, List.length_map]
        have hk2 : k + 1 ≤ 1048576 := by omega
        rw [← hT] at jt ju
        obtain ⟨aT, cT, eT, hcT⟩ := jt.shape
        obtain ⟨aU, cU, eU, hcU⟩ := ju.shape
        rw [List.length_map, ← hke] at eT eU hcT hcU
        subst eT eU
        have BT := hd bt
        have BU := hd bu
        have JT := hd jt
        have JUU := hd ju
        have HSS := hd hS
        have ct := bt.cell
        have ft := bt.frozen
        have cu := bu.cell
        have fu := bu.frozen
        have ca := (boxed_keepS BA6.out (show SS N w1.heap.size from Or.inl (by omega)) hS).cell
        have HK := hd hke
        have hsW := hS.size
        clear bt bu jt ju hS hT hke hkl
        have hLT : (T.map Prod.fst).length = k := by rw [List.length_map, HK.out]
        have hLU : (T.map Prod.snd).length = k := by rw [List.length_map, HK.out]
        obtain ⟨LT, hLTe⟩ : ∃ LT, LT = T.map Prod.fst := ⟨_, rfl⟩
        obtain ⟨LU, hLUe⟩ : ∃ LU, LU = T.map Prod.snd := ⟨_, rfl⟩
        rw [← hLTe] at JT hLT
        rw [← hLUe] at JUU hLU
        have HLT := hd hLTe
        have HLU := hd hLUe
        obtain ⟨q, hq⟩ : ∃ q, q = L + x1 := ⟨_, rfl⟩
        have hqi : (L : Int) + (x1 : Int) = (q : Int) := by omega
        have hqb : q < 9223372036854775808 := by omega
        have HQ := hd hq
        clear hLTe hLUe hq
        gi_wp2_with (first
          | (gi_at_builtin; refine wpListIn_append_jk Try.underlying25 info_int _ rfl _ _ rfl (N + 4) (.slice aT k cT) (.slice (some ⟨W.heap.size, 0, none⟩) 1 1) LT [q] rfl rfl (JT.out.keepAll ((Below.refl _ _).alloc (Nat.le_refl _) _)) (lit_isK_at .i64 9223372036854775808 W #[.int .i64 (q : Int)] 3 [q] 1 W.heap.size rfl rfl rfl (by simpa using hqb) (by simp [maxLen])) (k + 1) (by rw [hLT]; rfl) (LT ++ [q]) rfl (by omega) (by omega) (by simp; omega) ?_; intro aT2 cT2 w2 jt2 hg2 hk2' hc2; have bt2 := box_row BT.out JT.out hg2 (by decide); have ct2 := bt2.cell; have ft2 := bt2.frozen; have bu2 := box_row BU.out JT.out hg2 (by decide); have cu2 : (w2.setCell ⟨N, 0, none⟩ (.slice aT2 (k + 1) cT2)).cell? ⟨N + 1, 0, none⟩ = some (.slice aU k cU) := (bu2.other (by omega) _).cell; have ju2 := (JUU.out.keepAll ((Below.refl _ _).alloc (Nat.le_refl _) (.cells #[.int .i64 (q : Int)] 3))).grownO hg2 (JUU.out.apart JT.out (by decide)); have ju2' := ju2.setO (p := ⟨N, 0, none⟩) (fun g hg => (by have := JUU.out.blk_ge g hg; show g ≠ N; omega)) (.slice aT2 (k + 1) cT2); have hs2 := hg2.size)
          | (gi_at_builtin; refine wpListIn_append_jk Try.underlying22 info_u64 _ rfl _ _ rfl (N + 4) (.slice aU k cU) (.slice (some ⟨w2.heap.size, 0, none⟩) 1 1) LU [x2] rfl rfl (ju2'.keepAll ((Below.refl _ _).alloc (Nat.le_refl _) _)) (lit_isK_at .u64 18446744073709551616 _ #[.int .u64 (x2 : Int)] 29 [x2] 1 w2.heap.size (by simp [World.setCell]) rfl rfl (by simpa using hx2') (by simp [maxLen])) (k + 1) (by rw [hLU]; rfl) (LU ++ [x2]) rfl (by omega) (by omega) (by simp [World.setCell] at hs2 ⊢; omega) ?_; intro aU2 cU2 w3 ju3 hg3 hk3 hc3; have bu3 := box_row (show Boxed (w2.setCell ⟨N, 0, none⟩ (.slice aT2 (k + 1) cT2)) (N + 1) 22 (.slice aU k cU) from bu2.other (by omega) _) ju2' hg3 (by decide); have cu3 := bu3.cell; have fu3 := bu3.frozen))
        rw [HLT.out] at jt2 JT
        rw [HLU.out] at ju3 JUU
        have hK := split_keeps (vT2 := .slice aT2 (k + 1) cT2) (vU2 := .slice aU2 (k + 1) cU2) (by omega) JT.out JUU.out hg2 hg3
        refine ⟨hK.1, hK.2, ?_⟩
        show LoopInv N w6 (plc 0 l ++ ((pre ++ [(⟨(x1, x2), hx1, hx2⟩ : PN 1048576)]).map Subtype.val).map (sh L)) _
        rw [List.map_append, List.map_append, ← List.append_assoc, ← HTE.out, List.map_singleton, List.map_singleton]
        have hfin := split_step (w6 := w6) (by omega) BT.out BU.out JT.out JUU.out HSS.out jt2 hg2 ju3 hg3
        rw [HQ.out] at hfin
        exact hfin
      case stop =>
        rintro D c pre W hD hp h hK
        exact h.elim
      case done =>
        rintro D ys W hD hys ⟨⟨vT, vU, bt, bu, jt, ju⟩, hS⟩ hK
        clear hseq hIr hbr HINV
        obtain ⟨T, hT⟩ : ∃ T, T = allB 0 (enc l ++ b) := ⟨_, rfl⟩
        have hTe : plc 0 l ++ (ys.map Subtype.val).map (sh L) = T := by
          have e1 := allB_enc HN.out.1 b 0
          rw [Nat.zero_add, allB_shift (enc l).length b, ← HL.out] at e1
          rw [hys, hT, e1]
        rw [hTe] at jt ju
        have hTl : T.length ≤ L + b.length := by
          rw [hT]
          have := allB_len 0 (enc l ++ b)
          rwa [List.length_append, ← HL.out] at this
        obtain ⟨n, hn⟩ : ∃ n, n = T.length := ⟨_, rfl⟩
        have HTN := hd hn
        have HTE := hd hT
        obtain ⟨aT, cT, eT, hcT⟩ := jt.shape
        obtain ⟨aU, cU, eU, hcU⟩ := ju.shape
        rw [List.length_map, ← hn] at eT eU hcT hcU
        rw [← hn] at hTl
        subst eT eU
        have hsW := hS.size
        have hD2 : D < W.heap.size := (Array.getElem?_eq_some_iff.1 hK).1
        have BT := hd bt
        have BU := hd bu
        have JT := hd jt
        have JUU := hd ju
        have HSS := hd hS
        have HKD := hd hK
        clear bt bu jt ju hS hT hn hTe hK
        gi_wp2
        obtain ⟨KB, hKB⟩ : ∃ KB, KB = W.heap.size := ⟨_, rfl⟩
        obtain ⟨W7, hW7⟩ : ∃ W7, W7 = W.alloc (.cells #[.int .i64 0] 3) := ⟨_, rfl⟩
        rw [← hW7, ← hKB]
        have hs7 : W7.heap.size = KB + 1 := by rw [hW7, hKB]; simp
        have hb7 : Below W.heap.size W W7 := by rw [hW7]; exact (Below.refl _ _).alloc (Nat.le_refl _) _
        have BK7 : Hid (Boxed W7 KB 3 (.int .i64 ((([] : List (PN 11534336)).length : Nat) : Int))) := by rw [hW7, hKB]; exact Boxed.new _ _ _
        have BT7 := hd (boxed_below BT.out BT.out.lt hb7)
        have BU7 := hd (boxed_below BU.out BU.out.lt hb7)
        have JT7 := hd (JT.out.keepAll hb7)
        have JU7 := hd (JUU.out.keepAll hb7)
        have HSS7 : Hid (KeepS (SS N) w6 W7) := HSS.out.trans (KeepS.of_below hb7 (ss_lt (by omega)))
        have HKD7 : Hid (W7.heap[D]? = some (.deferred (some []))) := (hb7.block D hD2).trans HKD.out
        have hlT := JT.out.blk_lt
        have hlU := JUU.out.blk_lt
        have HLT := hd hlT
        have HLU := hd hlU
        rw [← hKB] at hD2 hsW HLT HLU
        clear hW7 hb7 BT BU JT JUU HSS HKD hlT hlU hKB
        obtain ⟨S2, hS2⟩ : ∃ S2 : Nat → Prop, S2 = fun g => g < KB := ⟨_, rfl⟩
        have hS2i : ∀ g, g < KB → S2 g := fun g h => by rw [hS2]; exact h
        have hS2l : ∀ g, S2 g → g < KB := fun g h => by rw [hS2] at h; exact h
        clear hS2
        have HS2I := hd hS2i
        have HS2L := hd hS2l
        have hseq := all_stops 7 (by omega) 11534336 S2 (N + 3) _ (enc l ++ b) W7 (by rw [List.length_append, ← HL.out]; omega) (hS2i _ (by omega)) (by omega) (boxed_keepS BX6.out (show SS N (N + 3) from Or.inr (Or.inr rfl)) HSS7.out).cell ((HW6.out.keepS (fun g hg => Or.inl (HWL.out g hg)) HSS7.out).isK) (by
          intro b0 off c0 hne e
          have := HWL.out b0 (by rw [e]; rfl)
          exact hS2i _ (by omega))
        refine wpIn_rangeFunc_ownF rfl (by omega) (gf := 26) (lb := #[.pointer (some ⟨N + 3, 0, none⟩)]) rfl trivial (enters_of Try.func26 (by kernel_rfl) rfl) hseq keepS_t (keepS_b (fun g h => by have := hS2l g h; omega)) (Below.refl _ _) (fun _ => rfl)
          (fun (pre : List (PN 11534336)) (W : World) => pre.map Subtype.val <+: T ∧ Boxed W KB 3 (.int .i64 ((pre.length : Nat) : Int)) ∧ KeepS S2 W7 W)
          (fun _ pre _ => ¬ pre.map Subtype.val <+: T)
          (OwnFrom.and (ownFrom_pure _ _) (OwnFrom.and (Own.from (boxed_own _ _ _) _) (ownFrom_keepS (fun g h => by have := hS2l g h; omega) (fun g h => by have := hS2l g h; omega))))
          (fun _ => ownFrom_pure _ _)
          ⟨List.nil_prefix, BK7.out, KeepS.refl _⟩
          (fun x => { tmps := #[Value.slice an l.length cn, Value.slice a b.length c, undef, undef, Value.pointer (some { block := w.heap.size, off := 0 }), Value.pointer (some { block := w1.heap.size, off := 0 }), Value.slice a3 (L + b.length) c3, Value.pointer (some { block := N, off := 0 }), Value.pointer (some { block := N + 1, off := 0 }), Value.func (Fn.func 26) #[] #[Value.pointer (some { block := N + 2, off := 0 })], Value.func (Fn.func 26) #[] #[Value.pointer (some { block := N + 3, off := 0 })], Value.int IntKind.i64 ↑(enc l).length, Value.int IntKind.i64 ↑l.length, undef, undef, Value.pointer (some { block := KB, off := 0 }), Value.int IntKind.i64 ↑x.val.fst, Value.int IntKind.u64 ↑x.val.snd, Value.slice an l.length cn, Value.slice (some { block := w.heap.size + 1, off := 0 }) L L, Value.slice none 0 0, Value.slice (some { block := w.heap.size + 1, off := 0 }) L L, Value.slice a2 L c2, Value.slice a2 L c2, Value.slice a b.length c, Value.slice a3 (L + b.length) c3, Value.slice a b.length c, Value.func (Fn.func 26) #[] #[Value.pointer (some { block := N + 2, off := 0 })], Value.slice a3 (L + b.length) c3, Value.func (Fn.func 26) #[] #[Value.pointer (some { block := N + 3, off := 0 })], Value.func (Fn.func 26) #[] #[Value.pointer (some { block := N + 2, off := 0 })], Value.bool false, Value.bool false, Value.func (Fn.func 26) #[] #[Value.pointer (some { block := N + 3, off := 0 })], Value.bool false, Value.bool false, Value.int IntKind.i64 ↑l.length, Value.slice an l.length cn, Value.int IntKind.i64 ↑l.length, Value.bool false, u40, u41, u42, u43, u44, u45, u46, u47, u48, u49, u50, u51, u52, u53, u54, u55, u56, u57, u58, u59, u60, Value.func (Fn.func 26) #[] #[Value.pointer (some { block := N + 2, off := 0 })], undef, undef, undef, undef, undef, undef, undef, undef, undef, undef, undef, undef, undef, Value.func (Fn.func 26) #[] #[Value.pointer (some { block := N + 3, off := 0 })], Value.int IntKind.i64 ↑x.val.fst, Value.int IntKind.u64 ↑x.val.snd, undef, undef, undef, undef, undef, undef, undef, undef, undef, undef, undef, undef, undef, undef, undef, undef, undef, undef, undef, undef, undef, undef, undef, undef, undef, undef, undef, undef, undef], defers := [] }) ?assign ?body ?done ?stop
        case assign =>
          intro lk x W K hK
          gi_wp2
          exact hK
        case body =>
          rintro lk pre ⟨⟨x1, x2⟩, hx1, hx2⟩ W8 ⟨hp, bk, hS⟩ hlen
          have ct := (boxed_keepS BT7.out (HS2I.out _ (by omega)) hS).cell
          have cu := (boxed_keepS BU7.out (HS2I.out _ (by omega)) hS).cell
          have br := boxed_keepS (boxed_keepS BR6.out (show SS N w.heap.size from Or.inl (by omega)) HSS7.out) (HS2I.out _ (by omega)) hS
          have cr := br.cell
          have frr := br.frozen
          have ck := bk.cell
          have fk := bk.frozen
          have HPS := hd (prefix_snoc (x := (x1, x2)) hp)
          rw [List.length_map] at HPS
          obtain ⟨k, hke⟩ : ∃ k, k = pre.length := ⟨_, rfl⟩
          have HKE := hd hke
          have hsn : (pre ++ [(⟨(x1, x2), hx1, hx2⟩ : PN 11534336)]).map Subtype.val = pre.map Subtype.val ++ [(x1, x2)] := by rw [List.map_append]; rfl
          have HSN := hd hsn
          have BK := hd bk
          have HS := hd hS
          have HP := hd hp
          rw [← hke] at ck
          have hkn : k ≤ n := by
            have := hp.length_le
            rw [List.length_map, ← hke, ← HTN.out] at this
            exact this
          have e1 : (((pre ++ [(⟨(x1, x2), hx1, hx2⟩ : PN 11534336)]).length : Nat) : Int) = (k : Int) + 1 := by rw [List.length_append, List.length_singleton, ← hke]; rfl
          have HE1 := hd e1
          clear hke hp bk br hsn hlen e1
          by_cases hkl : k < n
          · have hTk : k < (T.map Prod.fst).length := by rw [List.length_map, ← HTN.out]; exact hkl
            have hUk : k < (T.map Prod.snd).length := by rw [List.length_map, ← HTN.out]; exact hkl
            have hPk := (JT7.out.keepS (fun g hg => HS2I.out g (HLT.out g hg)) hS).isK
            have hQk := (JU7.out.keepS (fun g hg => HS2I.out g (HLU.out g hg)) hS).isK
            obtain ⟨_, _, ⟨hz0, _⟩ | ⟨pb, po, pc, ep, _, _, _, prow⟩⟩ := hPk
            · rw [hz0] at hTk; simp at hTk
            · obtain ⟨_, _, ⟨hz0, _⟩ | ⟨qb, qo, qc, eq, _, _, _, qrow⟩⟩ := hQk
              · rw [hz0] at hUk; simp at hUk
              · injection ep with ep1 ep2 ep3
                injection eq with eq1 eq2 eq3
                subst ep1 ep3 eq1 eq3
                have cp := prow k hTk
                have cq := qrow k hUk
                have hkT : k < T.length := by rw [← HTN.out]; exact hkl
                have hat : T[k]? = some ((T.map Prod.fst).getD k 0, (T.map Prod.snd).getD k 0) := by
                  rw [List.getD_eq_getElem?_getD, List.getD_eq_getElem?_getD, List.getElem?_map, List.getElem?_map, List.getElem?_eq_getElem hkT]; rfl
                have hpc := HPS.out
                rw [← HKE.out, hat] at hpc
                generalize (T.map Prod.fst).getD k 0 = q at *
                generalize (T.map Prod.snd).getD k 0 = p at *
                have HPC := hd hpc
                clear hpc hat prow qrow hkT hTk hUk ep2 eq2 hS
                by_cases h1 : q = x1
                · by_cases h2 : p = x2
                  · subst h1 h2
                    have hpre := HPC.out.2 rfl
                    have HPRE := hd hpre
                    clear hpre
                    gi_wp2
                    refine ⟨KeepsOthers.setCell _ _ _, (KeepS.refl _).setCell (p := ⟨KB, 0, none⟩) (fun h => by have := HS2L.out _ h; simp at this) _, ?_, ?_, ?_⟩
                    · show ((pre ++ [_]).map Subtype.val) <+: T
                      rw [HSN.out]; exact HPRE.out
                    · rw [HE1.out]; exact BK.out.set _
                    · exact HS.out.setCell (p := ⟨KB, 0, none⟩) (fun h => by have := HS2L.out _ h; simp at this) _
                  · have hne2 : ((p : Int) != (x2 : Int)) = true := by simp; omega
                    have hix : ¬ (pre ++ [(⟨(x1, x2), hx1, hx2⟩ : PN 11534336)]).map Subtype.val <+: T := by
                      rw [HSN.out, HPC.out]; intro e; injection e with e; injection e with e e2; omega
                    have HIX := hd hix
                    subst h1
                    clear hix h2
                    gi_wp2
                    exact ⟨KeepsOthers.setCell _ _ _, HIX.out⟩
                · have hne1 : ((q : Int) != (x1 : Int)) = true := by simp; omega
                  have hix : ¬ (pre ++ [(⟨(x1, x2), hx1, hx2⟩ : PN 11534336)]).map Subtype.val <+: T := by
                    rw [HSN.out, HPC.out]; intro e; injection e with e; injection e with e e2; omega
                  have HIX := hd hix
                  clear hix h1
                  gi_wp2
                  exact ⟨KeepsOthers.setCell _ _ _, HIX.out⟩
          · have hix : ¬ (pre ++ [(⟨(x1, x2), hx1, hx2⟩ : PN 11534336)]).map Subtype.val <+: T := by
              intro h
              have := h.length_le
              rw [List.length_map, List.length_append, List.length_singleton, ← HKE.out, ← HTN.out] at this
              omega
            have HIX := hd hix
            have hle : n ≤ k := by omega
            clear hix hkl hS
            gi_wp2
            exact ⟨KeepsOthers.setCell _ _ _, HIX.out⟩
        case stop =>
          rintro D2 c pre W8 _ hp h _
          exact (h (by rw [HTE.out]; exact hp)).elim
        case done =>
          rintro D2 ys2 W8 hD8 hys2 ⟨hp, bk, hS⟩ hK2
          have hyl : ys2.length = n := by
            have := congrArg List.length hys2
            rw [List.length_map, ← HTE.out, ← HTN.out] at this
            exact this
          rw [hyl] at bk
          clear hp hseq
          have hD82 : D2 < W8.heap.size := (Array.getElem?_eq_some_iff.1 hK2).1
          have hbl := hS.below (n := KB) (fun g hg => HS2I.out g hg)
          have ct := (boxed_below BT7.out (by omega) hbl).cell
          have br := boxed_below (boxed_keepS BR6.out (show SS N w.heap.size from Or.inl (by omega)) HSS7.out) (by omega) hbl
          have BRW := hd br
          have HKD8 : Hid (W8.heap[D]? = some (.deferred (some []))) := (hbl.block D (by omega)).trans HKD7.out
          have HB8 : Hid (Below w.heap.size w W8) := HB6.out.trans ((HSS7.out.below (n := w.heap.size) (fun g hg => Or.inl (by omega))).trans (hbl.mono (by omega)))
          have ck := bk.cell
          have HK2 := hd hK2
          clear bk br hS hbl hK2
          gi_wp2
          refine ⟨trivial, CallsIn.mono (callsIn_wide.2 (works_any W8)) ?_⟩
          rintro e w9 ⟨rfl, hb9⟩
          have BR9 := hd (boxed_below BRW.out BRW.out.lt hb9)
          have cr9 := BR9.out.cell
          have fr9 := BR9.out.frozen
          have HKD9 : Hid (w9.heap[D]? = some (.deferred (some []))) := (hb9.block D (by omega)).trans HKD8.out
          have HK29 : Hid (w9.heap[D2]? = some (.deferred (some []))) := (hb9.block D2 hD82).trans HK2.out
          have HB9 : Hid (Below w.heap.size w w9) := HB8.out.trans (hb9.mono HB8.out.size)
          clear hb9
          gi_wp2
          have hK' := (KeepsOthers.setCell w9 ⟨w.heap.size, 0, none⟩ (.bool true)).same D2 _ HK29.out rfl
          have hKd' := (KeepsOthers.setCell w9 ⟨w.heap.size, 0, none⟩ (.bool true)).same D _ HKD9.out rfl
          refine ⟨by simp, .inl ⟨_, _, rfl, run_takeDeferred hK', ?_⟩⟩
          have hKd2 := ((grownBy_putObj' (w9.setCell ⟨w.heap.size, 0, none⟩ (.bool true)) D2 (.deferred none)).block D (Array.getElem?_eq_some_iff.1 hKd').1 (by intro e; injection e; omega)).trans hKd'
          refine ⟨by simp, .inl ⟨_, _, rfl, run_takeDeferred hKd2, ?_⟩⟩
          have hc5 := cell_kept (BR9.out.set (.bool true)).cell (grownBy_putObj' _ D2 (.deferred none)) (fun r e => by cases e; exact ⟨_, hK', rfl⟩)
          have hc6 := cell_kept hc5 (grownBy_putObj' _ D (.deferred none)) (fun r e => by cases e; exact ⟨_, hKd2, rfl⟩)
          refine ⟨.bool true, ?_, rfl, ((HB9.out.setCell (p := ⟨w.heap.size, 0, none⟩) (Nat.le_refl _) _).trans (belowK_b (w := w) (Nat.le_refl _) _ D2 _ _ (by omega) hK' rfl rfl)).trans (belowK_b (w := w) (Nat.le_refl _) _ D _ _ (by omega) hKd2 rfl rfl)⟩
          simp [results, Try.f3, go_sem, hc6]
theorem walk (a0 : Option Addr) (len0 cap0 : Nat) (z0 : List Int) (a1 : Option Addr) (len1 cap1 : Nat) (z1 : List Int) (w : World) (w0 : IsRow .u64 w a0 len0 cap0 z0) (w1 : IsRow .u8 w a1 len1 cap1 z1) (hm : len0 + len1 ≤ 1048576) :
    Calls Try.prog 3 #[.slice a0 len0 cap0, .slice a1 len1 cap1] w fun e w' => e = .returned (.bool true) ∧ Below w.heap.size w w' := by
  obtain ⟨l, hl, hI⟩ := w0.isN
  obtain ⟨t, ht, hT⟩ := w1.isB
  exact walkB _ _ l t w hI hT (by omega)
/-- numbers weigh one each -/
theorem lits_bulk {H : Type} (k : IntKind) (zs : List Int) : zs.length ≤ Rows.uptoBulkAll (lits (H := H) k zs) := by
  induction zs with
  | nil => exact Nat.zero_le _
  | cons z r ih =>
    rw [show lits (H := H) k (z :: r) = .lit (.int k z) :: lits k r from rfl]
    simp only [Rows.uptoBulkAll, Rows.uptoBulk, List.length_cons]
    omega
set_option linter.unusedVariables false
set_option maxRecDepth 100000 in
theorem lifted (os : Os) (started : os.Started) (H : Type) (enc : TypeId × Value → H) (F : Stop.Interp) :
    ReturnsInHanded {} Try.checked os 3 .any ((Rows.OpenSpec.upto Rows.vintSplitSpec).pre6 enc Try.prog Try.f3 Rows.vintSplitUptoRow.domain false) (((Rows.OpenSpec.upto Rows.vintSplitSpec).at F).post enc Try.prog Try.f3 false true false false) := by
  refine returnsInHanded_of_cond (C := Try.checked) (s := Rows.OpenSpec.upto Rows.vintSplitSpec) (k := Rows.uptoSmall) rfl own started (by kernel_rfl) Try.func3
    (OpenSpec.witness (enc := enc) (C := Try.checked) (s := Rows.OpenSpec.upto Rows.vintSplitSpec) (k := Rows.uptoSmall) rfl false ⟨#[], #[.slice none 0 0, .slice none 0 0], []⟩ 8 (by kernel_rfl) (by kernel_rfl) (by kernel_rfl)
      (x := ([.nil, .nil], [], [])) (by kernel_rfl) rfl (by kernel_rfl)) ?_
  intro W base args ds gs before hval0 hW _ hk0 _
  have hk : Rows.uptoBulkAll (ds ++ gs) ≤ 1048576 := of_decide_eq_true hk0
  clear hk0
  have hval : ∀ (j : Nat) t v, Try.f3.params[j]? = some t → args[j]? = some v → Value.okWide Try.prog W .any base t v := hval0
  have hW' := hW
  obtain ⟨p, q, hA0, hV, rfl, hfz, hnd⟩ := hW
  have hA : DataW.TrodAll enc Try.prog W 0 (fun _ => true) true Try.f3.params.toList args.toList ds p := hA0
  rw [Try.params3] at hA hval
  obtain ⟨v0, vs0, d0, ds0, p0, q0, hargs, rfl, rfl, h0, r0⟩ := trodAll_cons hA
  obtain ⟨v1, vs1, d1, ds1, p1, q1, rfl, rfl, rfl, h1, r1⟩ := trodAll_cons r0
  obtain ⟨rfl, rfl, rfl⟩ := trodAll_nil r1
  obtain rfl : args = #[v0, v1] := by cases args; simp_all
  obtain ⟨rfl, rfl⟩ := trodVars_none hV
  have opens_u8 : ∀ (v : Value) (d : DataW H) (pl : List MemPlace) (a : Option Addr) (len cap : Nat), v = .slice a len cap → DataW.Trod enc Try.prog W 0 (fun _ => true) true 23 v d pl → ∃ zs, IsRow .u8 W a len cap zs ∧ len ≤ Rows.uptoBulk d := by
    rintro v d pl a len cap rfl ⟨fuel, hf⟩
    rcases open_ints Try.underlying23 Try.underlying5 (by kernel_rfl) hf with ⟨hcs, _⟩ | ⟨x, l, c, zs, hcs, _, hl, hm, hz, hx, hcell, hwz⟩
    · simp [Value.cells] at hcs
      obtain ⟨rfl, rfl, rfl⟩ := hcs
      exact ⟨[], .inl ⟨rfl, rfl, rfl, rfl⟩, by omega⟩
    · simp [Value.cells] at hcs
      obtain ⟨rfl, rfl, rfl⟩ := hcs
      have hz2 : zs.length = cap := by simpa using hz
      simp only [Prod.mk.injEq] at hx
      refine ⟨zs, .inr ⟨_, rfl, hl, hm, hz2, hcell, hwz⟩, ?_⟩
      rw [hx.1]
      have h1 := lits_bulk (H := H) .u8 (zs.take len)
      rw [List.length_take] at h1
      simp only [Rows.uptoBulk]
      omega
  have opens_u64 : ∀ (v : Value) (d : DataW H) (pl : List MemPlace) (a : Option Addr) (len cap : Nat), v = .slice a len cap → DataW.Trod enc Try.prog W 0 (fun _ => true) true 22 v d pl → ∃ zs, IsRow .u64 W a len cap zs ∧ len ≤ Rows.uptoBulk d := by
    rintro v d pl a len cap rfl ⟨fuel, hf⟩
    rcases open_ints Try.underlying22 Try.underlying29 (by kernel_rfl) hf with ⟨hcs, _⟩ | ⟨x, l, c, zs, hcs, _, hl, hm, hz, hx, hcell, hwz⟩
    · simp [Value.cells] at hcs
      obtain ⟨rfl, rfl, rfl⟩ := hcs
      exact ⟨[], .inl ⟨rfl, rfl, rfl, rfl⟩, by omega⟩
    · simp [Value.cells] at hcs
      obtain ⟨rfl, rfl, rfl⟩ := hcs
      have hz2 : zs.length = cap := by simpa using hz
      simp only [Prod.mk.injEq] at hx
      refine ⟨zs, .inr ⟨_, rfl, hl, hm, hz2, hcell, hwz⟩, ?_⟩
      rw [hx.1]
      have h1 := lits_bulk (H := H) .u64 (zs.take len)
      rw [List.length_take] at h1
      simp only [Rows.uptoBulk]
      omega
  obtain ⟨a0, len0, cap0, rfl⟩ := okWide_slice Try.underlying22 (hval 0 22 v0 rfl rfl)
  obtain ⟨a1, len1, cap1, rfl⟩ := okWide_slice Try.underlying23 (hval 1 23 v1 rfl rfl)
  have k0 := h0
  have k1 := h1
  have lt0 : ∀ x ∈ p0, x.block < W.heap.size := by obtain ⟨m, hm⟩ := k0; exact DataW.trod_lt m _ _ _ hm
  have lt1 : ∀ x ∈ p1, x.block < W.heap.size := by obtain ⟨m, hm⟩ := k1; exact DataW.trod_lt m _ _ _ hm
  obtain ⟨z0, w0, b0⟩ := opens_u64 _ d0 p0 a0 len0 cap0 rfl h0
  obtain ⟨z1, w1, b1⟩ := opens_u8 _ d1 p1 a1 len1 cap1 rfl h1
  have hm : len0 + len1 ≤ 1048576 := by
    simp only [List.cons_append, Rows.uptoBulkAll] at hk
    omega
  clear hA0 hval0
  refine (walk a0 len0 cap0 z0 a1 len1 cap1 z1 W w0 w1 hm).mono fun e W' ⟨he, bel⟩ => ?_
  subst he
  exact ⟨_, rfl, _, _, _, [], _, [], hW', trodAll_mk1 (shut_bool Try.underlying4 _), (trodAll_cons_mk (Below.trod laidOut (by kernel_rfl) (of_decide_eq_true (by kernel_rfl)) k0 bel lt0) (trodAll_cons_mk (Below.trod laidOut (by kernel_rfl) (of_decide_eq_true (by kernel_rfl)) k1 bel lt1) trodAll_mk0)), rfl, bel.frame _, fun h => by cases h⟩
theorem over : Rows.VintSplitUptoSaid :=
  OpenClaim.holds_of_cond 3 Try.f3 rfl rfl rfl rfl rfl rfl rfl ⟨rfl, rfl, rfl, rfl, rfl⟩ rfl rfl rfl rfl rfl (by kernel_rfl) Try.func3 (by kernel_rfl)
    (of_decide_eq_true (by kernel_rfl)) (by unfold Func.isWrapper; first | (rw [if_pos (by decide +kernel)]; kernel_rfl) | (rw [if_neg (by decide +kernel)]; exact ⟨rfl, rfl⟩))
    (fun os started H enc _ F => lifted os started H enc F)
end Split

theorem vintSplit_upto : Rows.VintSplitUptoSaid := Split.over
#print axioms vintSplit_upto
end Go.Proofs.Ytdmgcblbjjggbaa
