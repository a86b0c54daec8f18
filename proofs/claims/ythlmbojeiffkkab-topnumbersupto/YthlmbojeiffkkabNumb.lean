/-
  PROVED: for all numbers l, of bulk at most 1048576, the Go law TopNumbers answers true and changes nothing that came in: numbers come back, with a sum in digits ahead of them.
-/
import Derived.Test.YthlmbojeiffkkabI0
import Derived.Test.YthlmbojeiffkkabW8
import Derived.Test.YthlmbojeiffkkabJ0
import Derived.JoinedCond
namespace Go.Proofs.Ythlmbojeiffkkab
open Go.ChangeShapes Go.WideShapes Go.ChangeAt Go.RowKit Go.Shelf
namespace Numb
open Vt
attribute [local go_sem] Oper.semAt_some
/-- the numbers with their places -/
def plc : Nat → List Nat → List (Nat × Nat)
  | _, [] => []
  | p, x :: r => (p, x) :: plc (p + (vrt x).length) r
theorem allB_enc {l : List Nat} (h : N64 l) (p : Nat) : allB p (enc l) = plc p l := by
  induction l generalizing p with
  | nil => rfl
  | cons x r ih =>
    have hx := h x List.mem_cons_self
    have hd := dec_vrt hx (enc r)
    have hne : vrt x ++ enc r ≠ [] := by
      have := vrt_len x
      intro e
      have := congrArg List.length e
      rw [List.length_append, List.length_nil] at this
      omega
    rw [enc_cons, allB_ok hne (by rw [hd]), hd, plc]
    simp only
    rw [List.drop_left' rfl, ih (fun y hy => h y (List.mem_cons_of_mem _ hy))]
theorem plc_len (p : Nat) (l : List Nat) : (plc p l).length = l.length := by
  induction l generalizing p with
  | nil => rfl
  | cons x r ih => simp [plc, ih]
theorem plc_at (p : Nat) (l : List Nat) (k : Nat) (hk : k < l.length) : (plc p l)[k]? = some (p + (enc (l.take k)).length, l.getD k 0) := by
  induction l generalizing p k with
  | nil => simp at hk
  | cons x r ih =>
    cases k with
    | zero => simp [plc, enc_nil]
    | succ k =>
      rw [plc, List.getElem?_cons_succ, ih _ k (by simpa using hk), List.take_succ_cons, enc_cons, List.length_append, List.getD_cons_succ, Nat.add_assoc]
theorem prefix_snoc {α : Type} {pre xs : List α} {x : α} (h : pre <+: xs) : (pre ++ [x] <+: xs ↔ xs[pre.length]? = some x) := by
  obtain ⟨t, rfl⟩ := h
  rw [List.prefix_append_right_inj, List.getElem?_append_right (Nat.le_refl _), Nat.sub_self]
  cases t with
  | nil => simp
  | cons y t => simp [List.cons_prefix_cons, eq_comm]
theorem size_at (X : World) (N x : Nat) (hx : x < 18446744073709551616) (hc : X.cell? ⟨N, 0, none⟩ = some (.int .u64 (x : Int))) :
    Calls Try.prog 26 #[.slice (some ⟨N, 0, none⟩) 1 1] X fun e w' => e = .returned (.int .i64 (((vrt x).length : Nat) : Int)) ∧ w' = X := by
  have := size_row N 0 1 [x] X (by intro y hy; simp at hy; omega) (by
    intro i hi
    match i, hi with
    | 0, _ => exact hc) (by simp)
  rwa [enc_one] at this
theorem boxed_below {W W' : World} {B n : Nat} {t : TypeId} {v : Value} (h : Boxed W B t v) (hB : B < n) (hb : Below n W W') : Boxed W' B t v := (hb.block B hB).trans h
theorem str_two (w : World) (g : Nat) (k0 : w.cell? ⟨g, 0, none⟩ = some (.int .u8 (([172, 2].getD 0 0 : Nat) : Int))) (k1 : w.cell? ⟨g, 1, none⟩ = some (.int .u8 (([172, 2].getD 1 0 : Nat) : Int))) :
    (convert 22 9 (.slice (some ⟨g, 0, none⟩) 2 2)).run Try.prog w = .ok (.string ⟨#[172, 2]⟩) w := by
  rw [run_convert_bytes_string w _ _ 5 _ _ _ Try.underlying22 Try.underlying5 Try.underlying9]
  rw [run_bytesToString w ⟨g, 0, none⟩ 2 2 [172, 2] ?_]
  · rfl
  · refine run_loadCells_list (P := Try.prog) w ⟨g, 0, none⟩ [.int .u8 172, .int .u8 2] ?_
    intro j v hv
    rw [add_at, Nat.zero_add]
    match j, hv with
    | 0, hv => rw [k0]; exact hv
    | 1, hv => rw [k1]; exact hv
    | j + 2, hv => simp at hv
theorem sum_lit (X : World) (v : Value) (lb : List Nat) (t : TypeId) (hI : Vt.IsB X v lb) :
    Calls Try.prog 29 #[.slice (some ⟨X.heap.size, 0, none⟩) 1 1] (X.alloc (.cells #[v] t)) fun e w' => e = .returned (.int .u32 ((Crc.go 0 lb : Nat) : Int)) ∧ Below X.heap.size X w' := by
  have hb : Below X.heap.size X (X.alloc (.cells #[v] t)) := (Below.refl _ _).alloc (Nat.le_refl _) _
  refine (sum_row X.heap.size 0 1 [lb] _ (by simp [maxLen]) (by simp) ?_).mono ?_
  · intro i hi
    match i, hi with
    | 0, _ => exact ⟨v, (Boxed.new X t v).cell, hI.below hb⟩
  · rintro e w' ⟨rfl, h⟩
    exact ⟨by simp, hb.trans (h.mono (by simp))⟩
theorem fin_ok {W5 W : World} {N k x1 x2 : Nat} {pre : List (Nat × Nat)} {l : List Nat} {tn tu : TypeId} (bn : Boxed W (N + 1) tn (.int .i64 ((pre.length : Nat) : Int))) (bp : Boxed W (N + 1 + 1) tn (.int .i64 (((enc (l.take pre.length)).length : Nat) : Int))) (hB : Below (N + 1) W5 W)
    (hN : N + 1 ≤ W5.heap.size) (hk : k = pre.length) (hx1 : x1 = (enc (l.take pre.length)).length) (hp : pre ++ [(x1, x2)] <+: plc 0 l) (hkl : pre.length < l.length) (hx2 : x2 = l.getD pre.length 0) :
    KeepsOthers W (((W.alloc (.cells #[.int .u64 (x2 : Int)] tu)).setCell ⟨N + 1 + 1, 0, none⟩ (.int .i64 ((x1 : Int) + ((vrt x2).length : Int)))).setCell ⟨N + 1, 0, none⟩ (.int .i64 ((k : Int) + 1))).drew ∧ Below (N + 1) W (((W.alloc (.cells #[.int .u64 (x2 : Int)] tu)).setCell ⟨N + 1 + 1, 0, none⟩ (.int .i64 ((x1 : Int) + ((vrt x2).length : Int)))).setCell ⟨N + 1, 0, none⟩ (.int .i64 ((k : Int) + 1))).drew ∧
    (pre ++ [(x1, x2)] <+: plc 0 l ∧ Boxed (((W.alloc (.cells #[.int .u64 (x2 : Int)] tu)).setCell ⟨N + 1 + 1, 0, none⟩ (.int .i64 ((x1 : Int) + ((vrt x2).length : Int)))).setCell ⟨N + 1, 0, none⟩ (.int .i64 ((k : Int) + 1))).drew (N + 1) tn (.int .i64 (((pre ++ [(x1, x2)]).length : Nat) : Int)) ∧ Boxed (((W.alloc (.cells #[.int .u64 (x2 : Int)] tu)).setCell ⟨N + 1 + 1, 0, none⟩ (.int .i64 ((x1 : Int) + ((vrt x2).length : Int)))).setCell ⟨N + 1, 0, none⟩ (.int .i64 ((k : Int) + 1))).drew (N + 1 + 1) tn (.int .i64 (((enc (l.take (pre ++ [(x1, x2)]).length)).length : Nat) : Int)) ∧ Below (N + 1) W5 (((W.alloc (.cells #[.int .u64 (x2 : Int)] tu)).setCell ⟨N + 1 + 1, 0, none⟩ (.int .i64 ((x1 : Int) + ((vrt x2).length : Int)))).setCell ⟨N + 1, 0, none⟩ (.int .i64 ((k : Int) + 1))).drew) := by
  have hbel : Below (N + 1) W (((W.alloc (.cells #[.int .u64 (x2 : Int)] tu)).setCell ⟨N + 1 + 1, 0, none⟩ (.int .i64 ((x1 : Int) + ((vrt x2).length : Int)))).setCell ⟨N + 1, 0, none⟩ (.int .i64 ((k : Int) + 1))).drew :=
    below_drewN ((((Below.refl _ _).alloc (Nat.le_trans hN hB.size) _).setCell (p := ⟨N + 1 + 1, 0, none⟩) (by simp) _).setCell (p := ⟨N + 1, 0, none⟩) (Nat.le_refl _) _) 1
  have e1 : (((pre ++ [(x1, x2)]).length : Nat) : Int) = (k : Int) + 1 := by rw [List.length_append, List.length_singleton, hk]; rfl
  have e2 : (((enc (l.take (pre ++ [(x1, x2)]).length)).length : Nat) : Int) = (x1 : Int) + ((vrt x2).length : Int) := by
    rw [List.length_append, List.length_singleton, enc_succ hkl, List.length_append, ← hx1, ← hx2]; rfl
  rw [e1, e2]
  refine ⟨((KeepsOthers.alloc _ _).trans ((KeepsOthers.setCell _ _ _).trans (KeepsOthers.setCell _ _ _))).trans (KeepsOthers.drew _), hbel, hp, ?_, ?_, hB.trans hbel⟩
  · exact ((bn.alloc _).other (by omega) _).set _
  · exact ((bp.alloc _).set _).other (by omega) _
set_option maxRecDepth 100000 in
set_option maxHeartbeats 4000000 in
theorem walkB (v : Value) (l : List Nat) (w : World) (hN : Vt.IsN w v l) (hm : l.length ≤ 1048576) :
    Calls Try.prog 7 #[v] w fun e w' => e = .returned (.bool true) ∧ Below w.heap.size w w' := by
  have HN := hd hN
  obtain ⟨a, c, rfl⟩ := hN.shape
  have henc := enc_len hN.1
  clear hN
  refine (callsIn_wide (n := 8)).1 ?_
  refine callsIn_of_wp_marks Try.func7 rfl trivial ?_ rfl
  simp only [Try.ntmps7, List.size_toArray, List.length_cons, List.length_nil, Nat.reduceAdd, Nat.reduceSub, Array.replicate_succ, Array.replicate_zero, List.push_toArray, List.append_toArray, List.nil_append, List.cons_append]
  gi_wp2
  obtain ⟨W0, hW0⟩ : ∃ W0, W0 = ((w.alloc (.cells #[.slice a l.length c] 48)).alloc (.cells #[.bool false] 4)) := ⟨_, rfl⟩
  have hs0 : W0.heap.size = w.heap.size + 2 := by rw [hW0]; simp
  have hb0 : Below w.heap.size w W0 := by rw [hW0]; exact ((Below.refl _ _).alloc (Nat.le_refl _) _).alloc (by simp) _
  have bl0 : Boxed W0 w.heap.size 48 (.slice a l.length c) := by rw [hW0]; exact (Boxed.new w 48 _).alloc _
  have br0 : Boxed W0 (w.heap.size + 1) 4 (.bool false) := by
    have := Boxed.new (w.alloc (.cells #[.slice a l.length c] 48)) 4 (.bool false)
    rw [World.size_alloc] at this
    rw [hW0]; exact this
  have hc1 := (callsIn_wide (n := 7)).2 (encode_is _ [300] _ (lit_isK .u64 18446744073709551616 W0 #[.int .u64 300] 24 [300] 1 rfl rfl (by decide) (by decide)) (by decide))
  rw [show enc [300] = [172, 2] by simp [enc_cons, enc_nil, vrt_small, vrt_big], World.size_alloc] at hc1
  rw [← hW0]
  refine ⟨trivial, CallsIn.mono (by rw [hs0] at hc1; exact hc1) ?_⟩
  rintro e w1 ⟨rfl, hj1, hb1⟩
  have hb01 : Below (w.heap.size + 2) W0 w1 := ((Below.refl _ _).alloc (by omega) _).trans (hb1.mono (by omega))
  have HB1 := hd (hb0.trans (hb01.mono (by omega)))
  have BL1 := hd (boxed_below bl0 (by omega) hb01)
  have BR1 := hd (boxed_below br0 (by omega) hb01)
  have hl1 := BL1.out.cell
  have HJ1 := hd hj1.buf
  clear hc1 hj1 hb1 hb01 bl0 br0 hb0 hs0 hW0
  gi_wp2
  refine ⟨trivial, CallsIn.mono (callsIn_wide.2 (encode_is _ l w1 (HN.out.below HB1.out) (by omega))) ?_⟩
  rintro e w2 ⟨rfl, hj2, hb2⟩
  have HB2 := hd (HB1.out.trans (hb2.mono HB1.out.size))
  have BL2 := hd (boxed_below BL1.out BL1.out.lt hb2)
  have BR2 := hd (boxed_below BR1.out BR1.out.lt hb2)
  have hl2 := BL2.out.cell
  have HJ2 := hd hj2
  have hfst := HJ1.out.below HJ1.out.2.2.1 hb2
  have k0 := hfst.cell (j := 0) (by decide)
  have k1 := hfst.cell (j := 1) (by decide)
  have kc : (convert 22 9 (.slice (some ⟨w.heap.size + 2 + 1, 0, none⟩) 2 2)).run Try.prog w2 = .ok (.string ⟨#[172, 2]⟩) w2 := str_two w2 _ k0 k1
  obtain ⟨L, hL⟩ : ∃ L, L = (enc l).length := ⟨_, rfl⟩
  have HL := hd hL
  have hg1 : w.heap.size + 2 ≤ w1.heap.size := by have := BR1.out.lt; omega
  rw [← hL] at HJ2 henc ⊢
  clear hj2 hb2 hfst k0 k1 HJ1 BL1 BR1 hl1 hL HB1
  gi_wp2
  refine ⟨trivial, CallsIn.mono (callsIn_wide.2 (size_is _ l w2 (HN.out.below HB2.out) (by omega))) ?_⟩
  rw [← HL.out]
  rintro e w3 ⟨rfl, rfl⟩
  clear kc
  gi_wp2
  refine ⟨trivial, CallsIn.mono (callsIn_wide.2 (all_is _ _ _ w3)) ?_⟩
  rintro e w4 ⟨rfl, hw4⟩
  have hs4 : w4.heap.size = w3.heap.size + 1 := by rw [hw4]; simp
  have hb34 : Below w3.heap.size w3 w4 := by rw [hw4]; exact (Below.refl _ _).alloc (Nat.le_refl _) _
  have BB4 : Hid (Boxed w4 w3.heap.size 22 (.slice (some ⟨w1.heap.size, 0, none⟩) L L)) := by
    rw [hw4]; exact Boxed.new _ _ _
  have BL4 := hd (boxed_below BL2.out BL2.out.lt hb34)
  have BR4 := hd (boxed_below BR2.out BR2.out.lt hb34)
  have HB4 := hd (HB2.out.trans (hb34.mono HB2.out.size))
  have HJ4 := hd (HJ2.out.below HJ2.out.buf.2.2.1 hb34)
  have hlt1 : w1.heap.size < w3.heap.size := HJ2.out.buf.2.2.1
  clear hw4 hb34 hl2 BL2 BR2 HB2 HJ2
  have hrun : Sem.run Try.prog (binOp BinOp.eql 35 (Value.func (.func 32) #[] #[.pointer (some ⟨w3.heap.size, 0, none⟩)]) Value.nilFunc) w4 = .ok (.bool false) w4 := by kernel_rfl
  gi_wp2
  clear hrun
  obtain ⟨W5, hW5⟩ : ∃ W5, W5 = ((w4.alloc (.cells #[.int .i64 0] 3)).alloc (.cells #[.int .i64 0] 3)) := ⟨_, rfl⟩
  rw [← hW5]
  have hs5 : W5.heap.size = w3.heap.size + 3 := by rw [hW5]; simp; omega
  have hb45 : Below w4.heap.size w4 W5 := by rw [hW5]; exact ((Below.refl _ _).alloc (Nat.le_refl _) _).alloc (by simp) _
  have bn5 : Boxed W5 (w3.heap.size + 1) 3 (.int .i64 ((([] : List (Nat × Nat)).length : Nat) : Int)) := by
    rw [← hs4, hW5]; exact (Boxed.new w4 3 _).alloc _
  have bp5 : Boxed W5 (w3.heap.size + 1 + 1) 3 (.int .i64 (((enc (l.take ([] : List (Nat × Nat)).length)).length : Nat) : Int)) := by
    have := Boxed.new (w4.alloc (.cells #[.int .i64 0] 3)) 3 (.int .i64 0)
    rw [World.size_alloc, hs4] at this
    rw [hW5]; exact this
  have BL5 := hd (boxed_below BL4.out BL4.out.lt hb45)
  have BR5 := hd (boxed_below BR4.out BR4.out.lt hb45)
  have BB5 := hd (boxed_below BB4.out BB4.out.lt hb45)
  have HB5 := hd (HB4.out.trans (hb45.mono HB4.out.size))
  have HJ5 := hd (HJ4.out.below HJ4.out.buf.2.2.1 hb45)
  clear hW5 hb45 BL4 BR4 BB4 HB4 HJ4 hs4
  have hseq := all_stops 7 (by omega) w3.heap.size (w3.heap.size + 1) _ (enc l) W5 (by omega) (by omega) BB5.out.cell (by have := HJ5.out.isB; exact this) (by
    intro b off cc _ e
    injection e with e1 e2 e3
    injection e1 with e1
    injection e1 with e1
    omega)
  rw [allB_enc HN.out.1] at hseq
  refine wpIn_rangeFunc_ownF rfl (by omega) (gf := 32) (lb := #[.pointer (some ⟨w3.heap.size, 0, none⟩)]) rfl trivial (enters_of Try.func32 (by kernel_rfl) rfl) hseq belowK_t (belowK_b (by omega)) (Below.refl _ _) (fun _ => rfl)
    (fun pre W => pre <+: plc 0 l ∧ Boxed W (w3.heap.size + 1) 3 (.int .i64 ((pre.length : Nat) : Int)) ∧ Boxed W (w3.heap.size + 1 + 1) 3 (.int .i64 (((enc (l.take pre.length)).length : Nat) : Int)) ∧ Below (w3.heap.size + 1) W5 W)
    (fun _ pre _ => ¬ pre <+: plc 0 l)
    (OwnFrom.and (ownFrom_pure _ _) (OwnFrom.and (Own.from (boxed_own _ _ _) _) (OwnFrom.and (Own.from (boxed_own _ _ _) _) (ownFrom_below (by omega) (by omega)))))
    (fun _ => ownFrom_pure _ _)
    ⟨List.nil_prefix, bn5, bp5, Below.refl _ _⟩
    (fun x => { tmps := #[.slice a l.length c, .pointer (some ⟨w.heap.size, 0, none⟩), .pointer (some ⟨w.heap.size + 1, 0, none⟩), .slice (some ⟨w.heap.size + 2 + 1, 0, none⟩) 2 2, .slice (some ⟨w1.heap.size, 0, none⟩) L L, .func (.func 32) #[] #[.pointer (some ⟨w3.heap.size, 0, none⟩)], .pointer (some ⟨w3.heap.size + 1, 0, none⟩), .pointer (some ⟨w3.heap.size + 1 + 1, 0, none⟩), .int .i64 (x.1 : Int), .int .u64 (x.2 : Int), undef, undef, undef, undef, undef, undef, .slice (some ⟨w.heap.size + 1 + 1, 0, none⟩) 1 1, .slice (some ⟨w.heap.size + 2 + 1, 0, none⟩) 2 2, .slice a l.length c, .slice (some ⟨w1.heap.size, 0, none⟩) L L, .slice (some ⟨w.heap.size + 2 + 1, 0, none⟩) 2 2, .string ⟨#[172, 2]⟩, .bool false, .bool false, .slice (some ⟨w1.heap.size, 0, none⟩) L L, .int .i64 (L : Int), .slice a l.length c, .int .i64 (L : Int), .bool false, .bool false, .slice (some ⟨w1.heap.size, 0, none⟩) L L, .func (.func 32) #[] #[.pointer (some ⟨w3.heap.size, 0, none⟩)], .func (.func 32) #[] #[.pointer (some ⟨w3.heap.size, 0, none⟩)], .bool false, .func (.func 32) #[] #[.pointer (some ⟨w3.heap.size, 0, none⟩)], .int .i64 (x.1 : Int), .int .u64 (x.2 : Int), undef, undef, undef, undef, undef, undef, undef, undef, undef, undef, undef, undef, undef, undef, undef, undef, undef, undef, undef, undef, undef, undef, undef, undef, undef, undef, undef, undef, undef, undef, undef, undef, undef, undef, undef, undef, undef, undef, undef, undef, undef, undef, undef, undef, undef, undef, undef, undef, undef, undef, undef, undef, undef, undef, undef, undef, undef, undef, undef, undef, undef, undef, undef, undef, undef, undef, undef, undef, undef, undef, undef, undef, undef, undef, undef, undef, undef, undef], defers := [] }) ?assign ?body ?done ?stop
  case assign =>
    intro l x W K hK
    gi_wp2
    exact hK
  case body =>
    rintro lk pre ⟨x1, x2⟩ W ⟨hp, bn, bp, hB⟩ hlen
    have hw31 : w.heap.size + 2 < w3.heap.size := by omega
    have cl := (boxed_below BL5.out (by omega) hB).cell
    have br := boxed_below BR5.out (by omega) hB
    have cr := br.cell
    have fr := br.frozen
    have cn := bn.cell
    have fn := bn.frozen
    have cp := bp.cell
    have fp := bp.frozen
    have hk : pre.length ≤ l.length := by have := hp.length_le; rw [plc_len] at this; exact this
    have HPS := hd (prefix_snoc (x := (x1, x2)) hp)
    obtain ⟨k, hke⟩ : ∃ k, k = pre.length := ⟨_, rfl⟩
    have HKE := hd hke
    obtain ⟨P, hPe⟩ : ∃ P, P = (enc (l.take pre.length)).length := ⟨_, rfl⟩
    have HPE := hd hPe
    have HP := hd hp
    have BN := hd bn
    have BP := hd bp
    have HBB := hd hB
    rw [← hke] at cn hk
    rw [← hPe] at cp
    clear hke hPe hp bn bp hB hlen
    by_cases hkl : k < l.length
    · have hat := plc_at 0 l k hkl
      rw [Nat.zero_add] at hat
      have hpc := HPS.out
      rw [← HKE.out, hat, HKE.out, ← HPE.out, ← HKE.out] at hpc
      have hP10 : P ≤ 10485760 := by
        have h1 := enc_len (HN.out.1 : N64 l)
        have h2 : enc l = enc (l.take pre.length) ++ enc (l.drop pre.length) := by rw [← enc_append, List.take_append_drop]
        rw [h2, List.length_append, ← HPE.out] at h1
        omega
      have hy := N64.at HN.out.1 k
      obtain ⟨_, _, ⟨rfl, _⟩ | ⟨nb, no, nc, e, _, _, hnb, hnr⟩⟩ := HN.out
      · simp at hkl
      · injection e with e1 e2 e3
        subst e1 e3
        have hcy : W.cell? ⟨nb, no + k, none⟩ = some (.int .u64 ((l.getD k 0 : Nat) : Int)) := by
          rw [HBB.out.cell (p := ⟨nb, no + k, none⟩) (by simp; omega), HB5.out.cell (p := ⟨nb, no + k, none⟩) hnb]; exact hnr k hkl
        obtain ⟨y, hye⟩ : ∃ y, y = l.getD k 0 := ⟨_, rfl⟩
        have HYE := hd hye
        rw [← hye] at hcy hy hpc
        have HPC := hd hpc
        clear hye hpc hnr hnb hat
        by_cases h1 : x1 = P
        · by_cases h2 : x2 = y
          · subst h1 h2
            have cpA : ∀ o, (W.alloc o).cell? ⟨w3.heap.size + 1 + 1, 0, none⟩ = some (.int .i64 (x1 : Int)) := fun o => by rw [HPE.out]; exact (BP.out.alloc o).cell
            have fpA : ∀ o, (W.alloc o).frozen? ⟨w3.heap.size + 1 + 1, 0, none⟩ = false := fun o => (BP.out.alloc o).frozen
            have cnA : ∀ o, (W.alloc o).cell? ⟨w3.heap.size + 1, 0, none⟩ = some (.int .i64 (k : Int)) := fun o => by rw [HKE.out]; exact (BN.out.alloc o).cell
            have fnA : ∀ o, (W.alloc o).frozen? ⟨w3.heap.size + 1, 0, none⟩ = false := fun o => (BN.out.alloc o).frozen
            have h10 := vrt_ten hy
            have HFIN : Hid (KeepsOthers W (((W.alloc (.cells #[.int .u64 (x2 : Int)] 24)).setCell ⟨w3.heap.size + 1 + 1, 0, none⟩ (.int .i64 ((x1 : Int) + ((vrt x2).length : Int)))).setCell ⟨w3.heap.size + 1, 0, none⟩ (.int .i64 ((k : Int) + 1))).drew ∧ Below (w3.heap.size + 1) W (((W.alloc (.cells #[.int .u64 (x2 : Int)] 24)).setCell ⟨w3.heap.size + 1 + 1, 0, none⟩ (.int .i64 ((x1 : Int) + ((vrt x2).length : Int)))).setCell ⟨w3.heap.size + 1, 0, none⟩ (.int .i64 ((k : Int) + 1))).drew ∧ _) := fin_ok BN.out BP.out HBB.out (by omega) HKE.out HPE.out (HPC.out.2 rfl) (by rw [← HKE.out]; exact hkl) (by rw [← HKE.out]; exact HYE.out)
            have hmx : Try.prog.follows .mixedOrders = true := by kernel_rfl
            gi_wp2
            gi_region_with_o (refine ⟨trivial, ?_⟩; gi_at_call 26; refine (CallsIn.inRound lk (callsIn_wide.2 (size_at _ _ x2 hy (by first | exact (Boxed.new _ _ _).cell | simp)))).mono ?_; rintro e w' ⟨rfl, rfl⟩)
            all_goals (have hwr : IntKind.i64.wrap ((x1 : Int) + ((vrt x2).length : Int)) = ((x1 + (vrt x2).length : Nat) : Int) := (by rw [IntKind.wrap_i64]; omega))
            all_goals gi_wp2
            all_goals exact HFIN.out
          · have hne2 : ((x2 : Int) != (y : Int)) = true := by simp; omega
            have hix : ¬ pre ++ [(x1, x2)] <+: plc 0 l := by
              rw [HPC.out]; intro e; injection e with e; injection e with e e2; omega
            have HIX := hd hix
            subst h1
            clear hix h2
            gi_wp2
            exact ⟨KeepsOthers.setCell _ _ _, HIX.out⟩
        · have hne1 : ((x1 : Int) != (P : Int)) = true := by simp; omega
          have hix : ¬ pre ++ [(x1, x2)] <+: plc 0 l := by
            rw [HPC.out]; intro e; injection e with e; injection e with e e2; omega
          have HIX := hd hix
          clear hix h1
          gi_wp2
          exact ⟨KeepsOthers.setCell _ _ _, HIX.out⟩
    · have hix : ¬ pre ++ [(x1, x2)] <+: plc 0 l := by
        intro h
        have := h.length_le
        rw [plc_len, List.length_append, List.length_singleton, ← HKE.out] at this
        omega
      have HIX := hd hix
      have hle : l.length ≤ k := by omega
      clear hix hkl
      gi_wp2
      exact ⟨KeepsOthers.setCell _ _ _, HIX.out⟩
  case done =>
    rintro D ys W hD rfl ⟨hp, bn, bp, hB⟩ hK
    clear hp hseq
    rw [plc_len] at bn bp
    rw [List.take_length, ← HL.out] at bp
    have hw31 : w.heap.size + 2 < w3.heap.size := by omega
    have hD2 : D < W.heap.size := (Array.getElem?_eq_some_iff.1 hK).1
    have HBW := hd (HB5.out.trans (hB.mono (by omega)))
    have BL6 := hd (boxed_below BL5.out (by omega) hB)
    have BR6 := hd (boxed_below BR5.out (by omega) hB)
    have HJ6 := hd (HJ5.out.below (k := w3.heap.size + 1) (by omega) hB)
    have BN6 := hd bn
    have BP6 := hd bp
    have HK6 := hd hK
    clear hB bn bp hK BL5 BR5 BB5 HB5 HJ5 bn5 bp5
    gi_wp2
    refine ⟨trivial, CallsIn.mono (callsIn_wide.2 (sum_lit W _ (enc l) 22 HJ6.out.isB)) ?_⟩
    rintro e w7 ⟨rfl, hb7⟩
    have hs7 := Crc.go_lt 0 (enc l)
    have BL7 := hd (boxed_below BL6.out BL6.out.lt hb7)
    have BR7 := hd (boxed_below BR6.out BR6.out.lt hb7)
    have BN7 := hd (boxed_below BN6.out BN6.out.lt hb7)
    have BP7 := hd (boxed_below BP6.out BP6.out.lt hb7)
    have HJ7 := hd (HJ6.out.below HJ6.out.buf.2.2.1 hb7)
    have HK7 : Hid (w7.heap[D]? = some (.deferred (some []))) := (hb7.block D hD2).trans HK6.out
    have HB7 := hd (HBW.out.trans (hb7.mono HBW.out.size))
    have hD7 : D < w7.heap.size := Nat.lt_of_lt_of_le hD2 hb7.size
    clear hb7 BL6 BR6 BN6 BP6 HJ6 HK6 HBW hD2
    obtain ⟨sm, hsm⟩ : ∃ sm, sm = Crc.go 0 (enc l) := ⟨_, rfl⟩
    rw [← hsm] at hs7 ⊢
    clear hsm
    gi_wp2
    refine ⟨trivial, CallsIn.mono (callsIn_wide.2 (digits_ok sm 5 w7 (by omega) (by omega) (by omega) (Nat.lt_of_lt_of_le hs7 (by decide)))) ?_⟩
    rintro e w8 ⟨rfl, hj8, hb8⟩
    have BL8 := hd (boxed_below BL7.out BL7.out.lt hb8)
    have BR8 := hd (boxed_below BR7.out BR7.out.lt hb8)
    have BN8 := hd (boxed_below BN7.out BN7.out.lt hb8)
    have BP8 := hd (boxed_below BP7.out BP7.out.lt hb8)
    have HJ8 := hd (HJ7.out.below HJ7.out.buf.2.2.1 hb8)
    have HK8 : Hid (w8.heap[D]? = some (.deferred (some []))) := (hb8.block D hD7).trans HK7.out
    have HB8 := hd (HB7.out.trans (hb8.mono HB7.out.size))
    have hD8 : D < w8.heap.size := Nat.lt_of_lt_of_le hD7 hb8.size
    have HD8 := hd hj8
    clear hb8 hj8 BL7 BR7 BN7 BP7 HJ7 HK7 HB7 hD7
    have cl8 := BL8.out.cell
    have cn8 := BN8.out.cell
    have cp8 := BP8.out.cell
    gi_wp2
    refine ⟨trivial, CallsIn.mono (callsIn_wide.2 (joined_is _ _ (dg 5 sm) (enc l) w8 HD8.out.isB HJ8.out.isB (by rw [dg_len, ← HL.out]; omega))) ?_⟩
    rintro e w9 ⟨v9, rfl, hj9, hb9⟩
    have BR9 := hd (boxed_below BR8.out BR8.out.lt hb9)
    have HK9 : Hid (w9.heap[D]? = some (.deferred (some []))) := (hb9.block D hD8).trans HK8.out
    have HB9 := hd (HB8.out.trans (hb9.mono HB8.out.size))
    have hD9 : D < w9.heap.size := Nat.lt_of_lt_of_le hD8 hb9.size
    have HF9 := hd (HD8.out.below HD8.out.buf.2.2.1 hb9).buf
    have HJ9 := hd hj9.isB
    clear hb9 hj9 BL8 BR8 BN8 BP8 HJ8 HK8 HB8 hD8 HD8 cl8 cn8 cp8
    gi_wp2
    refine ⟨trivial, CallsIn.mono (callsIn_wide.2 (number_is _ 5 _ w9 HJ9.out (by omega) (by omega) (by rw [List.length_append, dg_len]; omega))) ?_⟩
    rw [numAns_ok (by rw [List.take_left' (dg_len 5 sm)]; exact dg_lt 5 sm), List.take_left' (dg_len 5 sm), nm_dg, Nat.mod_eq_of_lt (Nat.lt_of_lt_of_le hs7 (by decide))]
    rintro e w10 ⟨rfl, rfl⟩
    clear HJ9
    have cr := BR9.out.cell
    have fr := BR9.out.frozen
    gi_wp2
    gi_loopw [15] (fun i wr => ∃ j : Nat, j ≤ 5 ∧ i = .int .i64 (j : Int) ∧ wr = w10) (fun i _ => 5 - (intOf i).toNat)
    case atStart => exact ⟨0, by omega, rfl, rfl⟩
    case round =>
      obtain ⟨j, hj, rfl, rfl⟩ := hrel
      by_cases hj5 : j < 5
      · have cz := HF9.out.cell (j := j) (by rw [dg_len]; exact hj5)
        have hz : (dg 5 sm).getD j 0 < 128 := by rw [dg_at 5 sm j hj5]; omega
        generalize (dg 5 sm).getD j 0 = z at cz hz
        gi_wp2
        go_roundw
        case rel => exact ⟨j + 1, by omega, by go_num, by first | trivial | rfl⟩
        case measure => simp [intOf]; omega
      · obtain rfl : j = 5 := by omega
        gi_wp2
        have hK' := (KeepsOthers.setCell wr ⟨w.heap.size + 1, 0, none⟩ (.bool true)).same D _ HK9.out rfl
        refine ⟨by simp, .inl ⟨_, _, rfl, run_takeDeferred hK', ?_⟩⟩
        have hc5 := cell_kept (BR9.out.set (.bool true)).cell (grownBy_putObj' _ D (.deferred none)) (fun r e => by cases e; exact ⟨_, hK', rfl⟩)
        refine ⟨.bool true, ?_, rfl, (HB9.out.setCell (p := ⟨w.heap.size + 1, 0, none⟩) (by simp) _).trans (belowK_b (w := w) (Nat.le_refl _) _ D _ _ (by omega) hK' rfl rfl)⟩
        simp [results, Try.f7, go_sem, hc5]
  case stop =>
    rintro D c pre W _ hp h _
    exact (h hp).elim
theorem walk (a0 : Option Addr) (len0 cap0 : Nat) (z0 : List Int) (w : World) (w0 : Vt.IsRow .u64 w a0 len0 cap0 z0) (hm : len0 ≤ 1048576) :
    Calls Try.prog 7 #[.slice a0 len0 cap0] w fun e w' => e = .returned (.bool true) ∧ Below w.heap.size w w' := by
  obtain ⟨l, hl, hN⟩ := w0.isN
  exact walkB _ l w hN (by omega)
/-- numbers weigh one each -/
theorem lits_bulk {H : Type} (k : IntKind) (zs : List Int) : zs.length ≤ Rows.uptoBulkAll (lits (H := H) k zs) := by
  induction zs with
  | nil => exact Nat.zero_le _
  | cons z r ih =>
    rw [show lits (H := H) k (z :: r) = .lit (.int k z) :: lits k r from rfl]
    simp only [Rows.uptoBulkAll, Rows.uptoBulk, List.length_cons]
    omega
set_option linter.unusedVariables false
set_option maxRecDepth 100000 in
theorem lifted (os : Os) (started : os.Started) (H : Type) (enc : TypeId × Value → H) (F : Stop.Interp) :
    ReturnsInHanded {} Try.checked os 7 .any ((Rows.OpenSpec.upto Rows.topNumbersSpec).pre6 enc Try.prog Try.f7 Rows.topNumbersUptoRow.domain false) (((Rows.OpenSpec.upto Rows.topNumbersSpec).at F).post enc Try.prog Try.f7 false true false false) := by
  refine returnsInHanded_of_cond (C := Try.checked) (s := Rows.OpenSpec.upto Rows.topNumbersSpec) (k := Rows.uptoSmall) rfl own started (by kernel_rfl) Try.func7
    (OpenSpec.witness (enc := enc) (C := Try.checked) (s := Rows.OpenSpec.upto Rows.topNumbersSpec) (k := Rows.uptoSmall) rfl false ⟨#[], #[.slice none 0 0], []⟩ 8 (by kernel_rfl) (by kernel_rfl) (by kernel_rfl)
      (x := ([.nil], [], [])) (by kernel_rfl) rfl (by kernel_rfl)) ?_
  intro W base args ds gs before hval0 hW _ hk0 _
  have hk : Rows.uptoBulkAll (ds ++ gs) ≤ 1048576 := of_decide_eq_true hk0
  clear hk0
  have hval : ∀ (j : Nat) t v, Try.f7.params[j]? = some t → args[j]? = some v → Value.okWide Try.prog W .any base t v := hval0
  have hW' := hW
  obtain ⟨p, q, hA0, hV, rfl, hfz, hnd⟩ := hW
  have hA : DataW.TrodAll enc Try.prog W 0 (fun _ => true) true Try.f7.params.toList args.toList ds p := hA0
  rw [Try.params7] at hA hval
  obtain ⟨v0, vs0, d0, ds0, p0, q0, hargs, rfl, rfl, h0, r0⟩ := trodAll_cons hA
  obtain ⟨rfl, rfl, rfl⟩ := trodAll_nil r0
  obtain rfl : args = #[v0] := by cases args; simp_all
  obtain ⟨rfl, rfl⟩ := trodVars_none hV
  have opens_u64 : ∀ (v : Value) (d : DataW H) (pl : List MemPlace) (a : Option Addr) (len cap : Nat), v = .slice a len cap → DataW.Trod enc Try.prog W 0 (fun _ => true) true 48 v d pl → ∃ zs, IsRow .u64 W a len cap zs ∧ len ≤ Rows.uptoBulk d := by
    rintro v d pl a len cap rfl ⟨fuel, hf⟩
    rcases open_ints Try.underlying48 Try.underlying24 (by kernel_rfl) hf with ⟨hcs, _⟩ | ⟨x, l, c, zs, hcs, _, hl, hm, hz, hx, hcell, hwz⟩
    · simp [Value.cells] at hcs
      obtain ⟨rfl, rfl, rfl⟩ := hcs
      exact ⟨[], .inl ⟨rfl, rfl, rfl, rfl⟩, by omega⟩
    · simp [Value.cells] at hcs
      obtain ⟨rfl, rfl, rfl⟩ := hcs
      have hz2 : zs.length = cap := by simpa using hz
      simp only [Prod.mk.injEq] at hx
      refine ⟨zs, .inr ⟨_, rfl, hl, hm, hz2, hcell, hwz⟩, ?_⟩
      rw [hx.1]
      have h1 := lits_bulk (H := H) .u64 (zs.take len)
      rw [List.length_take] at h1
      simp only [Rows.uptoBulk]
      omega
  obtain ⟨a0, len0, cap0, rfl⟩ := okWide_slice Try.underlying48 (hval 0 48 v0 rfl rfl)
  have k0 := h0
  have lt0 : ∀ x ∈ p0, x.block < W.heap.size := by obtain ⟨m, hm⟩ := k0; exact DataW.trod_lt m _ _ _ hm
  obtain ⟨z0, w0, b0⟩ := opens_u64 _ d0 p0 a0 len0 cap0 rfl h0
  have hm : len0 ≤ 1048576 := by
    simp only [List.cons_append, Rows.uptoBulkAll] at hk
    omega
  clear hA0 hval0
  refine (walk a0 len0 cap0 z0 W w0 hm).mono fun e W' ⟨he, bel⟩ => ?_
  subst he
  exact ⟨_, rfl, _, _, _, [], _, [], hW', trodAll_mk1 (shut_bool Try.underlying4 _), (trodAll_cons_mk (Below.trod laidOut (by kernel_rfl) (of_decide_eq_true (by kernel_rfl)) k0 bel lt0) trodAll_mk0), rfl, bel.frame _, fun h => by cases h⟩
theorem over : Rows.TopNumbersUptoSaid :=
  OpenClaim.holds_of_cond 7 Try.f7 rfl rfl rfl rfl rfl rfl rfl ⟨rfl, rfl, rfl, rfl, rfl⟩ rfl rfl rfl rfl rfl (by kernel_rfl) Try.func7 (by kernel_rfl)
    (of_decide_eq_true (by kernel_rfl)) (by unfold Func.isWrapper; first | (rw [if_pos (by decide +kernel)]; kernel_rfl) | (rw [if_neg (by decide +kernel)]; exact ⟨rfl, rfl⟩))
    (fun os started H enc _ F => lifted os started H enc F)
end Numb

theorem topNumbers_upto : Rows.TopNumbersUptoSaid := Numb.over
#print axioms topNumbers_upto
end Go.Proofs.Ythlmbojeiffkkab
