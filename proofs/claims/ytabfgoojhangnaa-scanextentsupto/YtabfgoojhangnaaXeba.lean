/-
  small facts for ranges over located: boxes and blocks beside a row that grows; the set that a loop keeps.
  scan.appendJunk: a run of junk behind some extents, unless it is empty.
  scan.Extents: the extents of any bytes.
-/
import Derived.Test.YtabfgoojhangnaaXeaz
namespace Go.Proofs.Ytabfgoojhangnaa
open Go.RowKit Go.Shelf
namespace Vt
theorem grown_alloc {w w' : World} {o : Obj} {row : Option Nat} (h : (w.alloc o).grownBy w' row) : w.grownBy w' row := by
  refine ⟨h.os, h.tape, h.output, by have := h.size; rw [World.size_alloc] at this; omega, fun k hk hr => ?_⟩
  rw [h.block k (by rw [World.size_alloc]; omega) hr, Below.heap_alloc w o k hk]
theorem cell_lit (w : World) (t : TypeId) (cs : List Value) (j : Nat) (u : Value) (g : Nat) (hg : g = w.heap.size) (h : cs[j]? = some u) : (w.alloc (.cells cs.toArray t)).cell? ⟨g, j, none⟩ = some u := by
  subst hg
  rw [World.cell?_alloc_new]
  simpa using h
theorem Boxed.grownJ {E : TypeId} {sz : Nat} {w w' : World} {B base : Nat} {t : TypeId} {u v : Value} {l : List (List Value)} (h : Boxed w B t u) (hr : JR E sz w base v l) (hte : t ≠ E) (hg : w.grownBy w' v.ownBlock) : Boxed w' B t u := h.kept hg (hr.not_box h hte)
theorem Blk.grownJ {E : TypeId} {sz : Nat} {w w' : World} {B base : Nat} {t : TypeId} {cs : List Value} {v : Value} {l : List (List Value)} (h : Blk w B t cs) (hr : JR E sz w base v l) (hte : t ≠ E) (hg : w.grownBy w' v.ownBlock) : Blk w' B t cs := h.grown hg (hr.not_blk h hte)
/-- the set that the loop keeps: all below N, and the box of the bytes -/
def SE (N : Nat) (g : Nat) : Prop := g < N ∨ g = N + 2
theorem se_lt {N : Nat} {W : World} (h : N + 4 ≤ W.heap.size) : ∀ g, SE N g → g < W.heap.size := by
  intro g hg
  unfold SE at hg
  omega
end Vt
end Go.Proofs.Ytabfgoojhangnaa
namespace Go.Proofs.Ytabfgoojhangnaa
open Go.RowKit Go.Shelf
namespace Vt
def exv (x : Ex) : List Value := [.bool x.1, .int .i64 x.2.1, .int .i64 x.2.2]
abbrev JE := JR 59 3
theorem info_ex : (Try.prog.info? 59).map (fun i => (i.zero, i.size, i.bytes)) = some (some (.agg #[.bool false, .int .i64 0, .int .i64 0]), 3, 24) := by kernel_rfl
theorem exv_one (x : Ex) : ∀ u ∈ exv x, u.oneCell' = true := by
  intro u hu
  simp only [exv, List.mem_cons, List.mem_nil_iff, or_false] at hu
  rcases hu with rfl | rfl | rfl <;> rfl
set_option maxRecDepth 100000 in
set_option maxHeartbeats 800000 in
theorem junk_is (v : Value) (l : List Ex) (a b : Nat) (w : World) (base : Nat) (hJ : JE w base v (l.map exv)) (ha : a ≤ 4611686018427387904) (hb : b ≤ 4611686018427387904) (hl : l.length + 1 ≤ 1000000000) (hbase : base ≤ w.heap.size) :
    Calls Try.prog 21 #[v, .int .i64 (a : Int), .int .i64 (b : Int)] w fun e w' => ∃ v', e = .returned v' ∧ JE w' base v' ((l ++ jk1 a b).map exv) ∧ w.grownBy w' v.ownBlock ∧ (∀ g, v'.ownBlock = some g → v.ownBlock = some g ∨ w.heap.size ≤ g) := by
  obtain ⟨va, vc, rfl, hvc⟩ := hJ.shape
  have HJ := hd hJ
  clear hJ
  rw [List.length_map] at hvc HJ ⊢
  by_cases hab : a = b
  · subst hab
    have hjk : jk1 a a = [] := by unfold jk1; rw [if_pos rfl]
    have HK := hd hjk
    clear hjk
    go_enter Try.func21, Try.ntmps21
    go_wp2_with fail
    go_ret
    exact ⟨_, rfl, by rw [HK.out, List.append_nil]; exact HJ.out, World.grownBy.refl _ _, fun g hg => .inl hg⟩
  · have hjk : jk1 a b = [(true, (a : Int), (b : Int) - (a : Int))] := by unfold jk1; rw [if_neg hab]
    have HK := hd hjk
    have hne : ((a : Int) == (b : Int)) = false := by rw [beq_eq_false_iff_ne]; omega
    clear hjk
    go_enter Try.func21, Try.ntmps21
    go_wp2_with (at_builtin; refine wpList_append_jr Try.underlying28 info_ex rfl (by decide) _ rfl _ _ rfl base (.slice va l.length vc) (l.map exv) w.heap.size 1 [.bool true, .int .i64 (a : Int), .int .i64 ((b : Int) - (a : Int))] rfl rfl (HJ.out.alloc _) rfl (exv_one (true, (a : Int), (b : Int) - (a : Int))) (fun j u hu => cell_lit w _ _ j u _ rfl hu) (l.length + 1) (by rw [List.length_map]) (by omega) (by unfold maxLen; omega) (by rw [World.size_alloc]; omega) ?_; intro g2 c2 w2 hj2 hg2 hw2)
    go_ret
    refine ⟨_, rfl, ?_, grown_alloc hg2, fun g hg => ?_⟩
    · rw [HK.out, List.map_append]; exact hj2
    · cases hg
      rcases hw2 with h | h
      · exact .inl h
      · rw [World.size_alloc] at h; exact .inr (by show _ ≤ g2; omega)
end Vt
end Go.Proofs.Ytabfgoojhangnaa
namespace Go.Proofs.Ytabfgoojhangnaa
open Go.RowKit Go.Shelf
namespace Vt
attribute [local go_sem] Oper.semAt_some
/-- between two rounds -/
def ExInv (N B : Nat) (w4 : World) (pre : List Lc) (W : World) : Prop :=
  (∃ ve, Boxed W N 28 ve ∧ Boxed W (N + 1) 3 (.int .i64 (((exF pre).2 : Nat) : Int)) ∧ JE W (N + 4) ve ((exF pre).1.map exv)) ∧ (exF pre).2 ≤ B ∧ KeepS (SE N) w4 W
theorem exInv_own {β : Type} {N B : Nat} {w4 : World} (f : β → List Lc) (hs : N + 4 = w4.heap.size) : OwnFrom w4.heap.size (fun s W => ExInv N B w4 (f s) W) := by
  intro s W W' row hs' hg hr
  obtain ⟨⟨ve, be, bn, j⟩, hb, hS⟩ := hs'
  have hr' : ∀ r, row = some r → ∃ o : Obj, W.heap[r]? = some o ∧ o.isCells = false := fun r e => (hr r e).2
  exact ⟨⟨ve, Boxed.keptO be hg hr', Boxed.keptO bn hg hr', j.kept hg hr'⟩, hb, hS.grown hg (se_lt (by have := hS.size; omega)) (fun g e h => by have := (hr g e).1; unfold SE at h; omega)⟩
theorem ExInv.alloc {N B : Nat} {w4 W : World} {pre : List Lc} (h : ExInv N B w4 pre W) (hs : N + 4 = w4.heap.size) (o : Obj) : ExInv N B w4 pre (W.alloc o) := by
  obtain ⟨⟨ve, be, bn, j⟩, hb, hS⟩ := h
  exact ⟨⟨ve, be.alloc o, bn.alloc o, j.alloc o⟩, hb, hS.alloc (se_lt (by have := hS.size; omega)) o⟩
/-- the world behind a round -/
theorem ext_step {N B : Nat} {w4 W w2 w3 : World} {pre : List Lc} {ve v2 v3 : Value} {o : Obj} {x : Lc} {L2 : List (List Value)} {e e' : Int} (hs : N + 4 = w4.heap.size)
    (be : Boxed W N 28 ve) (bn : Boxed W (N + 1) 3 (.int .i64 e)) {L : List (List Value)} (j : JE W (N + 4) ve L) (hS : KeepS (SE N) w4 W)
    (g2 : W.grownBy w2 ve.ownBlock) (j2 : JE w2 (N + 4) v2 L2) (g3 : ((w2.setCell ⟨N, 0, none⟩ v2).alloc o).grownBy w3 v2.ownBlock) (j3 : JE w3 (N + 4) v3 ((exF (pre ++ [x])).1.map exv)) (he : e' = (((exF (pre ++ [x])).2 : Nat) : Int)) (heB : (exF (pre ++ [x])).2 ≤ B) :
    KeepsOthers W ((w3.setCell ⟨N, 0, none⟩ v3).setCell ⟨N + 1, 0, none⟩ (.int .i64 e')) ∧ KeepS (SE N) W ((w3.setCell ⟨N, 0, none⟩ v3).setCell ⟨N + 1, 0, none⟩ (.int .i64 e')) ∧ ExInv N B w4 (pre ++ [x]) ((w3.setCell ⟨N, 0, none⟩ v3).setCell ⟨N + 1, 0, none⟩ (.int .i64 e')) := by
  subst he
  have hsW := hS.size
  have hs2 := g2.size
  have hsc : (w2.setCell ⟨N, 0, none⟩ v2).heap.size = w2.heap.size := by simp [World.setCell]
  have hs3 := g3.size
  rw [World.size_alloc, hsc] at hs3
  have nE : ∀ g, ve.ownBlock = some g → N + 4 ≤ g := j.blk_ge
  have n2 : ∀ g, v2.ownBlock = some g → N + 4 ≤ g := j2.blk_ge
  have n3 : ∀ g, v3.ownBlock = some g → N + 4 ≤ g := j3.blk_ge
  have be2 := Boxed.grownJ be j (by decide) g2
  have bn2 := Boxed.grownJ bn j (by decide) g2
  have j2s : JE (w2.setCell ⟨N, 0, none⟩ v2) (N + 4) v2 L2 := j2.setO (p := ⟨N, 0, none⟩) (fun g hg => by have := n2 g hg; show g ≠ N; omega) _
  have bn2s : Boxed (w2.setCell ⟨N, 0, none⟩ v2) (N + 1) 3 (.int .i64 e) := bn2.other (by omega) _
  have be2s : Boxed (w2.setCell ⟨N, 0, none⟩ v2) N 28 v2 := be2.set _
  have be3 := Boxed.grownJ (be2s.alloc o) (j2s.alloc o) (by decide) g3
  have bn3 := Boxed.grownJ (bn2s.alloc o) (j2s.alloc o) (by decide) g3
  have k1 : KeepS (SE N) W w2 := (KeepS.refl W).grown g2 (se_lt (by omega)) (fun g e h => by have := nE g e; unfold SE at h; omega)
  have k2 : KeepS (SE N) W (w2.setCell ⟨N, 0, none⟩ v2) := k1.setCell (p := ⟨N, 0, none⟩) (fun h => by have h' : N < N ∨ N = N + 2 := h; omega) _
  have k3 : KeepS (SE N) W w3 := (k2.alloc (se_lt (by rw [hsc]; omega)) o).grown g3 (se_lt (by rw [World.size_alloc, hsc]; omega)) (fun g e h => by have := n2 g e; unfold SE at h; omega)
  have k4 : KeepS (SE N) W (w3.setCell ⟨N, 0, none⟩ v3) := k3.setCell (p := ⟨N, 0, none⟩) (fun h => by have h' : N < N ∨ N = N + 2 := h; omega) _
  have k5 : KeepS (SE N) W ((w3.setCell ⟨N, 0, none⟩ v3).setCell ⟨N + 1, 0, none⟩ (.int .i64 (((exF (pre ++ [x])).2 : Nat) : Int))) := k4.setCell (p := ⟨N + 1, 0, none⟩) (fun h => by have h' : N + 1 < N ∨ N + 1 = N + 2 := h; omega) _
  refine ⟨?_, k5, ⟨v3, ?_, ?_, ?_⟩, heB, hS.trans k5⟩
  · exact (j.others g2).trans ((KeepsOthers.setCell _ _ _).trans ((KeepsOthers.alloc _ o).trans (((j2s.alloc o).others g3).trans ((KeepsOthers.setCell _ _ _).trans (KeepsOthers.setCell _ _ _)))))
  · exact (be3.set v3).other (by omega) _
  · exact (bn3.other (by omega) _).set _
  · exact (j3.setO (p := ⟨N, 0, none⟩) (fun g hg => by have := n3 g hg; show g ≠ N; omega) _).setO (p := ⟨N + 1, 0, none⟩) (fun g hg => by have := n3 g hg; show g ≠ N + 1; omega) _
set_option maxRecDepth 100000 in
set_option maxHeartbeats 2000000 in
theorem extents_is (v : Value) (l : List Nat) (w : World) (hI : IsB w v l) (hl : l.length ≤ 16777216) :
    Calls Try.prog 5 #[v] w fun e w' => ∃ v', e = .returned v' ∧ JE w' w.heap.size v' ((exts l).map exv) ∧ Below w.heap.size w w' := by
  obtain ⟨a, c, rfl⟩ := hI.shape
  have HI := hd hI
  clear hI
  refine (callsIn_wide (n := 8)).1 ?_
  refine callsIn_of_wp_marks Try.func5 rfl trivial (Code.wpIn_mono bodyPostF_M ?_) rfl
  simp only [Try.ntmps5, List.size_toArray, List.length_cons, List.length_nil, Nat.reduceAdd, Nat.reduceSub, Array.replicate_succ, Array.replicate_zero, List.push_toArray, List.append_toArray, List.nil_append, List.cons_append]
  gi_wp2
  refine ⟨trivial, CallsIn.mono (callsIn_wide.2 (located_is _ _ _ _ _)) ?_⟩
  rintro e w4 ⟨rfl, hw4⟩
  obtain ⟨N, hN⟩ : ∃ N, N = w.heap.size := ⟨_, rfl⟩
  have hs4 : w4.heap.size = N + 4 := by rw [hw4, hN]; simp
  have hB4 : Hid (Below w.heap.size w w4) := by rw [hw4]; exact ((((Below.refl _ _).alloc (Nat.le_refl _) _).alloc (by simp) _).alloc (by simp; omega) _).alloc (by simp; omega) _
  have BE4 : Hid (Boxed w4 N 28 (.slice none 0 0)) := by rw [hw4, hN]; exact (((Boxed.new w 28 _).alloc _).alloc _).alloc _
  have BN4 : Hid (Boxed w4 (N + 1) 3 (.int .i64 0)) := by
    have := Boxed.new (w.alloc (.cells #[.slice none 0 0] 28)) 3 (.int .i64 0)
    rw [World.size_alloc, ← hN] at this
    rw [hw4]; exact (this.alloc _).alloc _
  have BB4 : Hid (Boxed w4 (N + 2) 22 (.slice a l.length c)) := by
    have := Boxed.new ((w.alloc (.cells #[.slice none 0 0] 28)).alloc (.cells #[.int .i64 0] 3)) 22 (.slice a l.length c)
    rw [World.size_alloc, World.size_alloc, ← hN] at this
    rw [hw4]; exact this.alloc _
  have BF4 : Hid (Boxed w4 (N + 3) 3 (.int .i64 0)) := by
    have := Boxed.new (((w.alloc (.cells #[.slice none 0 0] 28)).alloc (.cells #[.int .i64 0] 3)).alloc (.cells #[.slice a l.length c] 22)) 3 (.int .i64 0)
    rw [World.size_alloc, World.size_alloc, World.size_alloc, ← hN] at this
    rw [hw4]; exact this
  simp only [World.size_alloc]
  rw [← hN] at hB4 ⊢
  have HN := hd hN
  clear hw4 hN
  have hseq := located_stops 7 (by omega) l.length (SE N) (N + 1 + 1) (N + 1 + 1 + 1) (.slice a l.length c) 0 l w4 (Nat.le_refl _) (Or.inr rfl) (by omega) (by omega) (se_lt (by omega)) BB4.out.cell BF4.out.cell (HI.out.below (HN.out ▸ hB4.out)) (fun b off c' hne e => by
    obtain ⟨_, _, ⟨rfl, _⟩ | ⟨nb, no, nc, e1, _, _, hnb, hnr⟩⟩ := HI.out
    · exact absurd rfl hne
    · rw [e] at e1; injection e1 with e1 e2 e3; injection e1 with e1; injection e1 with e1 e4; have := HN.out; left; omega)
  have hfrm : frm l.length 0 = 0 := by unfold frm; simp
  rw [hfrm, List.drop_zero] at hseq
  have HSQ := hd hseq
  clear hseq hfrm
  gi_wp2
  rename_i K hK
  have HK := hd hK
  clear hK
  refine wpIn_rangeFunc_ownH rfl (by omega) (gf := 24) (lb := #[.pointer (some ⟨N + 1 + 1, 0, none⟩), .pointer (some ⟨N + 1 + 1 + 1, 0, none⟩)]) rfl trivial (enters_of Try.func24 (by kernel_rfl) rfl) HSQ.out keepS_t (keepS_b (se_lt (by omega))) (Below.refl _ _) (fun _ => rfl)
    (fun (pre : List (PL l.length)) (W : World) => ExInv N l.length w4 (pre.map Subtype.val) W)
    (fun _ _ _ => False)
    (exInv_own _ hs4.symm)
    (fun _ _ _ _ _ hs _ _ => hs)
    ⟨⟨_, BE4.out, BN4.out, jr_nil _ _⟩, Nat.zero_le _, KeepS.refl _⟩
    (fun (x : PL l.length) a' W => ∃ Bx, N + 4 ≤ Bx ∧ Blk W Bx 56 (lcv x.1) ∧ a' = { tmps := #[Value.slice a l.length c, undef, Value.slice none 0 0, Value.pointer (some { block := N, off := 0 }), Value.pointer (some { block := N + 1, off := 0 }), Value.pointer (some { block := Bx, off := 0 }), Value.slice a l.length c, Value.func (Fn.func 24) #[] #[Value.pointer (some { block := N + 1 + 1, off := 0 }), Value.pointer (some { block := N + 1 + 1 + 1, off := 0 })], .agg (lcv x.1).toArray, undef, undef, undef, undef, undef, undef, undef, undef, undef, undef, undef, undef, undef, undef, undef, undef, undef, undef, undef, undef, undef, undef, undef], defers := [] })
    (fun x a' _ W W' row hs hg hr => by
      obtain ⟨Bx, h1, h2, h3⟩ := hs
      refine ⟨Bx, h1, h2.grown hg (fun e => ?_), h3⟩
      obtain ⟨o, ho, hc⟩ := (hr Bx e.symm).2
      have h2' : W.heap[Bx]? = _ := h2
      rw [h2'] at ho
      injection ho with ho
      rw [← ho] at hc
      cases hc)
    ?assign ?body ?done ?stop
  case assign =>
    rintro lk pre ⟨⟨x1, x2, k, ⟨rl, rk, rkey, rval⟩, ⟨pl, pk, pa, pn, pkey⟩, ⟨ec, eb, ef, es⟩⟩, hx⟩ W K hi hK
    simp only [encl, lcv]
    gi_wp2
    have hsW := hi.2.2.size
    exact hK _ _ ((KeepsOthers.alloc _ _).from _) ((KeepS.refl _).alloc (se_lt (by omega)) _) (hi.alloc hs4.symm _) ⟨W.heap.size, by omega, Blk.new W 56 (lcv (x1, x2, ⟨k, ⟨rl, rk, rkey, rval⟩, ⟨pl, pk, pa, pn, pkey⟩, ⟨ec, eb, ef, es⟩⟩)), rfl⟩
  case body =>
    rintro lk pre ⟨⟨x1, x2, f⟩, hx⟩ a' W hlk _ ⟨⟨ve, be, bn, j⟩, hb, hS⟩ ⟨Bx, hBx, hblk, rfl⟩ hlen
    have hxl : x1 + x2 ≤ l.length := hx.1
    have hpl := exF_len (pre.map Subtype.val)
    rw [List.length_map] at hpl
    have HSN : Hid (exF ((pre ++ [(⟨(x1, x2, f), hx⟩ : PL l.length)]).map Subtype.val) = ((exF (pre.map Subtype.val)).1 ++ jk1 (exF (pre.map Subtype.val)).2 x1 ++ [(false, (x1 : Int), (x2 : Int))], x1 + x2)) := by
      show exF _ = _
      rw [List.map_append, List.map_singleton, exF_snoc]; rfl
    have HMP : Hid ((pre ++ [(⟨(x1, x2, f), hx⟩ : PL l.length)]).map Subtype.val = pre.map Subtype.val ++ [(x1, x2, f)]) := by
      show _ = _
      rw [List.map_append, List.map_singleton]
    obtain ⟨P, hP⟩ : ∃ P, P = pre.map Subtype.val := ⟨_, rfl⟩
    have HP := hd hP
    rw [← hP] at bn j hb hpl HSN HMP
    obtain ⟨Lx, e, hE⟩ : ∃ Lx e, exF P = (Lx, e) := ⟨_, _, rfl⟩
    rw [hE] at bn j hb hpl HSN
    simp only at bn j hb hpl HSN
    have HE := hd hE
    have BE := hd be
    have BN := hd bn
    have HJ := hd j
    have HS := hd hS
    have HBL := hd hblk
    have cE := be.cell
    have cN := bn.cell
    have fN := bn.frozen
    have c14 : W.cell? ⟨Bx, 14, none⟩ = some (.int .i64 (x1 : Int)) := hblk.cell 14 _ rfl
    have c15 : W.cell? ⟨Bx, 15, none⟩ = some (.int .i64 (x2 : Int)) := hblk.cell 15 _ rfl
    have HCJ := hd (junk_is ve Lx e x1 W (N + 4) j (by omega) (by omega) (by omega) (by have := hS.size; omega))
    clear be bn j hS hblk hP hE
    gi_wp2
    refine ⟨trivial, CallsIn.mono (CallsIn.inRound lk (callsIn_wide.2 HCJ.out)) ?_⟩
    rintro e2 w2 ⟨v2, rfl, j2, g2, ow2⟩
    clear HCJ
    obtain ⟨a2, c2, hv2, hlc2⟩ := j2.shape
    rw [List.length_map] at hv2 hlc2
    obtain ⟨L2, hL2⟩ : ∃ L2, L2 = Lx ++ jk1 e x1 := ⟨_, rfl⟩
    have hl2 : L2.length ≤ 2 * pre.length + 1 := by rw [hL2, List.length_append]; have := jk1_len e x1; omega
    rw [← hL2] at j2 hv2 hlc2 HSN
    subst hv2
    have HJ2 := hd j2
    have HG2 := hd g2
    have be2 := Boxed.grownJ BE.out HJ.out (by decide) g2
    have bn2 := Boxed.grownJ BN.out HJ.out (by decide) g2
    have hb2 := HBL.out.grownJ HJ.out (by decide) g2
    have fE2 := be2.frozen
    have cE2 := be2.cell
    have d14 : w2.cell? ⟨Bx, 14, none⟩ = some (.int .i64 (x1 : Int)) := hb2.cell 14 _ rfl
    have d15 : w2.cell? ⟨Bx, 15, none⟩ = some (.int .i64 (x2 : Int)) := hb2.cell 15 _ rfl
    have n1 : ¬ N = Bx := by omega
    have n2 : ¬ Bx = N := by omega
    have HBE2 := hd be2
    have HBN2 := hd bn2
    have HB2 := hd hb2
    clear hL2 j2 g2 be2 bn2 hb2
    obtain ⟨W2, hW2⟩ : ∃ W2, W2 = w2.setCell ⟨N, 0, none⟩ (.slice a2 L2.length c2) := ⟨_, rfl⟩
    have hsW2 : W2.heap.size = w2.heap.size := by rw [hW2]; simp [World.setCell]
    have hsw : W.heap.size ≤ w2.heap.size := HG2.out.size
    have hsW := HS.out.size
    have j2s : JE W2 (N + 4) (.slice a2 L2.length c2) (L2.map exv) := by rw [hW2]; exact HJ2.out.setO (p := ⟨N, 0, none⟩) (fun g hg => by have := HJ2.out.blk_ge g hg; show g ≠ N; omega) _
    have b2s : Blk W2 Bx 56 (lcv (x1, x2, f)) := by rw [hW2]; exact HB2.out.other (p := ⟨N, 0, none⟩) (by show N ≠ Bx; omega) _
    have e2s : Boxed W2 N 28 (.slice a2 L2.length c2) := by rw [hW2]; exact HBE2.out.set _
    have n2s : Boxed W2 (N + 1) 3 (.int .i64 (e : Int)) := by rw [hW2]; exact Boxed.other HBN2.out (by omega) _
    have HJ2s := hd j2s
    have HB2s := hd b2s
    have HE2s := hd e2s
    have HN2s := hd n2s
    have HW2 := hd hW2
    clear j2s b2s e2s n2s hW2
    gi_wp2_with (gi_at_builtin; rw [← HW2.out]; refine wpListIn_append_jr Try.underlying28 info_ex rfl (by decide) _ rfl _ _ rfl (N + 4) (.slice a2 L2.length c2) (L2.map exv) w2.heap.size 1 [.bool false, .int .i64 (x1 : Int), .int .i64 (x2 : Int)] rfl rfl (HJ2s.out.alloc _) rfl (exv_one (false, (x1 : Int), (x2 : Int))) (fun j u hu => cell_lit W2 _ _ j u _ hsW2.symm hu) (L2.length + 1) (by rw [List.length_map]) (by omega) (by unfold maxLen; omega) (by rw [World.size_alloc]; omega) ?_; intro g3 c3 w3 hj3 hg3 hw3; have be3 := Boxed.grownJ (HE2s.out.alloc _) (HJ2s.out.alloc _) (by decide) hg3; have bn3 := Boxed.grownJ (HN2s.out.alloc _) (HJ2s.out.alloc _) (by decide) hg3; have hb3 := Blk.grownJ (HB2s.out.alloc _) (HJ2s.out.alloc _) (by decide) hg3; have p1 := be3.cell; have p2 := be3.frozen; have p3 := bn3.cell; have p4 := bn3.frozen; have p5 : w3.cell? ⟨Bx, 14, none⟩ = some (.int .i64 (x1 : Int)) := hb3.cell 14 _ rfl; have p6 : w3.cell? ⟨Bx, 15, none⟩ = some (.int .i64 (x2 : Int)) := hb3.cell 15 _ rfl; have n3 : ¬ N + 1 = Bx := (by omega); have n4 : ¬ Bx = N + 1 := (by omega); have HJ3 := hd hj3; have HG3 := hd hg3; clear hj3 hg3 be3 bn3 hb3 hw3)
    have hfin := ext_step (x := (x1, x2, f)) (pre := P) (B := l.length) (e' := (x1 : Int) + (x2 : Int)) hs4.symm BE.out BN.out HJ.out HS.out HG2.out HJ2.out (HW2.out ▸ HG3.out) (by
      have h1 := HSN.out
      rw [HMP.out] at h1
      rw [h1]
      simp only [List.map_append, List.map_cons, List.map_nil]
      exact HJ3.out) (by
      have h1 := HSN.out
      rw [HMP.out] at h1
      rw [h1]; simp only; omega) (by
      have h1 := HSN.out
      rw [HMP.out] at h1
      rw [h1]; exact hxl)
    rw [← HMP.out] at hfin
    exact ⟨hfin.1.from _, hfin.2.1, hfin.2.2⟩
  case done =>
    rintro D ys V hD hys ⟨⟨ve, be, bn, j⟩, hb, hS⟩ hKD
    gi_wp2
    refine HK.out _ _ ?_
    clear HK
    have hex : (exF (ys.map Subtype.val)).1 ++ jk1 (exF (ys.map Subtype.val)).2 l.length = exts l := by rw [hys]; rfl
    have HEX := hd hex
    have hpl := exF_len (ys.map Subtype.val)
    have hyl : (ys.map Subtype.val).length ≤ l.length := by
      rw [hys]
      have := locs_len HI.out.1 _ (Nat.le_refl _) 0
      omega
    obtain ⟨Lx, e, hE⟩ : ∃ Lx e, exF (ys.map Subtype.val) = (Lx, e) := ⟨_, _, rfl⟩
    rw [hE] at bn j hb hpl HEX
    simp only at bn j hb hpl HEX
    have cE := be.cell
    have cN := bn.cell
    have HCJ := hd (junk_is ve Lx e l.length V (N + 4) j (by omega) (by omega) (by omega) (by have := hS.size; omega))
    have HJ := hd j
    have HS := hd hS
    have HKD := hd hKD
    clear be bn j hS hex hE hys hyl hKD hpl
    gi_wp2
    refine ⟨trivial, CallsIn.mono (callsIn_wide.2 HCJ.out) ?_⟩
    rintro e2 w2 ⟨v2, rfl, j2, g2, ow2⟩
    rw [HEX.out] at j2
    have hKD2 := (HJ.out.others g2).same D _ HKD.out rfl
    gi_wp2
    refine ⟨by simp, .inl ⟨_, _, rfl, run_takeDeferred hKD2, ?_⟩⟩
    have hN' := HN.out
    refine ⟨_, results_tmp rfl _ _ _, v2, rfl, ?_, ?_⟩
    · exact (j2.kept (grownBy_putObj' w2 D _) (fun r e => by cases e; exact ⟨_, hKD2, rfl⟩)).lower (by omega)
    · rw [← hN']
      have b1 : Below N w V := hB4.out.trans (HS.out.below (fun g hg => Or.inl hg))
      have b2 : Below N w w2 := b1.grown g2 (by have := HS.out.size; omega) (fun q hq => by have := HJ.out.blk_ge q hq; omega)
      exact b2.trans (belowK_b (w := w) (by omega) w2 D _ _ (by have := hB4.out.size; omega) hKD2 rfl rfl)
  case stop =>
    rintro D c2 pre W hD hp h hK
    exact h.elim
end Vt
end Go.Proofs.Ytabfgoojhangnaa
