/-
  scan.Clean: the frames alone.
-/
import Derived.Test.YtolddolfpnkndaaGreatXsbs
import Derived.Test.YtolddolfpnkndaaGreatXsbt
namespace Go.Proofs.YtolddolfpnkndaaGreat
open Go.RowKit Go.Shelf
namespace Vt
attribute [local go_sem] Oper.semAt_some
attribute [local go_sem ↓] append_hide
/-- the set that the loop keeps: all up to N, and the box of the bytes -/
def SC (N : Nat) (g : Nat) : Prop := g ≤ N ∨ g = N + 2
theorem sc_lt {N : Nat} {W : World} (h : N + 4 ≤ W.heap.size) : ∀ g, SC N g → g < W.heap.size := by
  intro g hg
  unfold SC at hg
  omega
abbrev JB8 := JK .u8 256 5
/-- between two rounds -/
def ClInv (N : Nat) (l : List Nat) (w4 : World) (pre : List Lc) (W : World) : Prop :=
  (∃ vc, Boxed W (N + 1) 49 vc ∧ JB8 W (N + 4) vc (cln l pre)) ∧ (cln l pre).length ≤ pre.length * l.length ∧ KeepS (SC N) w4 W
theorem clInv_own {β : Type} {N : Nat} {l : List Nat} {w4 : World} (f : β → List Lc) (hs : N + 4 = w4.heap.size) : OwnFrom w4.heap.size (fun s W => ClInv N l w4 (f s) W) := by
  intro s W W' row hs' hg hr
  obtain ⟨⟨ve, be, j⟩, hb, hS⟩ := hs'
  have hr' : ∀ r, row = some r → ∃ o : Obj, W.heap[r]? = some o ∧ o.isCells = false := fun r e => (hr r e).2
  exact ⟨⟨ve, Boxed.keptO be hg hr', j.kept hg hr'⟩, hb, hS.grown hg (sc_lt (by have := hS.size; omega)) (fun g e h => by have := (hr g e).1; unfold SC at h; omega)⟩
theorem ClInv.alloc {N : Nat} {l : List Nat} {w4 W : World} {pre : List Lc} (h : ClInv N l w4 pre W) (hs : N + 4 = w4.heap.size) (o : Obj) : ClInv N l w4 pre (W.alloc o) := by
  obtain ⟨⟨ve, be, j⟩, hb, hS⟩ := h
  exact ⟨⟨ve, be.alloc o, j.keepAll ((Below.refl _ _).alloc (Nat.le_refl _) o)⟩, hb, hS.alloc (sc_lt (by have := hS.size; omega)) o⟩
theorem keep2 {L : Array Bool} {i p q : Nat} (hi : i < L.size) (hp : p ≠ i) (hq : q ≠ i) (h1 : L.getD p false = false) (h2 : L.getD q false = false) {w' A B C : World} (hw : w' = A) :
    ((L.setIfInBounds i true).getD p false = false → (L.setIfInBounds i true).getD q false = false ∧ w' = A) ∧ ((L.setIfInBounds i true).getD p false = true → (L.setIfInBounds i true).getD q false = false → w' = B) ∧ ((L.setIfInBounds i true).getD q false = true → w' = C) := by
  rw [set_getD _ _ _ hi, set_getD _ _ _ hi, if_neg hp, if_neg hq, h1, h2]
  exact ⟨fun _ => ⟨rfl, hw⟩, fun h => (by cases h), fun h => (by cases h)⟩
theorem keep2b {L : Array Bool} {p q : Nat} (hi : p < L.size) (hq : q ≠ p) (h2 : L.getD q false = false) {w' A B C : World} (hw : w' = B) :
    ((L.setIfInBounds p true).getD p false = false → (L.setIfInBounds p true).getD q false = false ∧ w' = A) ∧ ((L.setIfInBounds p true).getD p false = true → (L.setIfInBounds p true).getD q false = false → w' = B) ∧ ((L.setIfInBounds p true).getD q false = true → w' = C) := by
  rw [set_getD _ _ _ hi, set_getD _ _ _ hi, if_pos rfl, if_neg hq, h2]
  exact ⟨fun h => (by cases h), fun _ _ => hw, fun h => (by cases h)⟩
theorem keep2c {L : Array Bool} {p q : Nat} (hi : q < L.size) (hq : p ≠ q) (h1 : L.getD p false = true) {w' A B C : World} (hw : w' = C) :
    ((L.setIfInBounds q true).getD p false = false → (L.setIfInBounds q true).getD q false = false ∧ w' = A) ∧ ((L.setIfInBounds q true).getD p false = true → (L.setIfInBounds q true).getD q false = false → w' = B) ∧ ((L.setIfInBounds q true).getD q false = true → w' = C) := by
  rw [set_getD _ _ _ hi, set_getD _ _ _ hi, if_neg hq, if_pos rfl, h1]
  exact ⟨fun h => (by cases h), fun _ h => (by cases h), fun _ => hw⟩
theorem step_k {F : Fence} {n : Nat} {P : Program} {o : Oper} {a : Act} {w w' : World} {Q : Exit → Act → World → Prop} {v : Value} {X : World → Prop} (hX : X w') (h : ∀ K : Act → World → Prop, K (a.put o.dst v) w' → o.wpIn F n P a w K Q) : o.wpIn F n P a w (fun a' w'' => a' = a.put o.dst v ∧ X w'') Q := h _ ⟨rfl, hX⟩
set_option maxRecDepth 100000 in
set_option maxHeartbeats 2000000 in
theorem clean_is (v : Value) (l : List Nat) (w : World) (hI : IsB w v l) (hl : l.length ≤ 10000000) :
    Calls Tryz.prog 18 #[v] w fun e w' => ∃ v', e = .returned v' ∧ JB w' w.heap.size v' (cln l (locs 0 l)) ∧ Below w.heap.size w w' := by
  obtain ⟨a, c, rfl⟩ := hI.shape
  have HI := hd hI
  clear hI
  refine (callsIn_wide (n := 8)).1 ?_
  refine callsIn_of_wp_marks Tryz.func18 rfl trivial (Code.wpIn_mono bodyPostF_M ?_) rfl
  simp only [Tryz.ntmps18, List.size_toArray, List.length_cons, List.length_nil, Nat.reduceAdd, Nat.reduceSub, Array.replicate_succ, Array.replicate_zero, List.push_toArray, List.append_toArray, List.nil_append, List.cons_append]
  gi_wp2
  refine ⟨trivial, CallsIn.mono (callsIn_wide.2 (located_is _ _ _ _ _)) ?_⟩
  rintro e w4 ⟨rfl, hw4⟩
  obtain ⟨N, hN⟩ : ∃ N, N = w.heap.size := ⟨_, rfl⟩
  have hs4 : w4.heap.size = N + 4 := by rw [hw4, hN]; simp
  have hB4 : Hid (Below w.heap.size w w4) := by rw [hw4]; exact ((((Below.refl _ _).alloc (Nat.le_refl _) _).alloc (by simp) _).alloc (by simp; omega) _).alloc (by simp; omega) _
  have BX4 : Hid (Boxed w4 N 49 (.slice a l.length c)) := by rw [hw4, hN]; exact (((Boxed.new w 49 _).alloc _).alloc _).alloc _
  have BE4 : Hid (Boxed w4 (N + 1) 49 (.slice none 0 0)) := by
    have := Boxed.new (w.alloc (.cells #[.slice a l.length c] 49)) 49 (.slice none 0 0)
    rw [World.size_alloc, ← hN] at this
    rw [hw4]; exact (this.alloc _).alloc _
  have BB4 : Hid (Boxed w4 (N + 2) 49 (.slice a l.length c)) := by
    have := Boxed.new ((w.alloc (.cells #[.slice a l.length c] 49)).alloc (.cells #[.slice none 0 0] 49)) 49 (.slice a l.length c)
    rw [World.size_alloc, World.size_alloc, ← hN] at this
    rw [hw4]; exact this.alloc _
  have BF4 : Hid (Boxed w4 (N + 3) 3 (.int .i64 0)) := by
    have := Boxed.new (((w.alloc (.cells #[.slice a l.length c] 49)).alloc (.cells #[.slice none 0 0] 49)).alloc (.cells #[.slice a l.length c] 49)) 3 (.int .i64 0)
    rw [World.size_alloc, World.size_alloc, World.size_alloc, ← hN] at this
    rw [hw4]; exact this
  simp only [World.size_alloc]
  rw [← hN] at hB4 ⊢
  have HN := hd hN
  have HIL : Hid (∀ b off c', l ≠ [] → Value.slice a l.length c = .slice (some ⟨b, off, none⟩) l.length c' → b < N) := fun b off c' hne e => by
    obtain ⟨_, _, ⟨rfl, _⟩ | ⟨nb, no, nc, e1, _, _, hnb, hnr⟩⟩ := HI.out
    · exact absurd rfl hne
    · rw [e] at e1; injection e1 with e1 e2 e3; injection e1 with e1; injection e1 with e1 e4; omega
  clear hw4 hN
  have hseq := located_stops 7 (by omega) l.length (SC N) (N + 1 + 1) (N + 1 + 1 + 1) (.slice a l.length c) 0 l w4 (Nat.le_refl _) (Or.inr rfl) (by omega) (by omega) (sc_lt (by omega)) BB4.out.cell BF4.out.cell (HI.out.below (HN.out ▸ hB4.out)) (fun b off c' hne e => Or.inl (by have := HIL.out b off c' hne e; omega))
  have hfrm : frm l.length 0 = 0 := by unfold frm; simp
  rw [hfrm, List.drop_zero] at hseq
  have HSQ := hd hseq
  clear hseq hfrm
  gi_wp2
  rename_i K hK
  have HK := hd hK
  clear hK
  refine wpIn_rangeFunc_ownH rfl (by omega) (gf := 59) (lb := #[.pointer (some ⟨N + 1 + 1, 0, none⟩), .pointer (some ⟨N + 1 + 1 + 1, 0, none⟩)]) rfl trivial (enters_of Tryz.func59 (by kernel_rfl) rfl) HSQ.out keepS_t (keepS_b (sc_lt (by omega))) (Below.refl _ _) (fun _ => rfl)
    (fun (pre : List (PL l.length)) (W : World) => ClInv N l w4 (pre.map Subtype.val) W)
    (fun _ _ _ => False)
    (clInv_own _ hs4.symm)
    (fun _ _ _ _ _ hs _ _ => hs)
    ⟨⟨_, BE4.out, jk_nil _ _⟩, by simp [cln], KeepS.refl _⟩
    (fun (x : PL l.length) a' W => ∃ Bx, N + 4 ≤ Bx ∧ Blk W Bx 61 (lcv x.1) ∧ a' = { tmps := #[Value.slice a l.length c, Value.pointer (some { block := N, off := 0 }), Value.slice none 0 0, Value.pointer (some { block := N + 1, off := 0 }), Value.pointer (some { block := Bx, off := 0 }), Value.slice a l.length c, Value.func (Fn.func 59) #[] #[Value.pointer (some { block := N + 1 + 1, off := 0 }), Value.pointer (some { block := N + 1 + 1 + 1, off := 0 })], .agg (lcv x.1).toArray, undef, undef, undef, undef, undef, undef, undef, undef, undef, undef, undef, undef], defers := [] })
    (fun x a' _ W W' row hs hg hr => by
      obtain ⟨Bx, h1, h2, h3⟩ := hs
      refine ⟨Bx, h1, h2.grown hg (fun e => ?_), h3⟩
      obtain ⟨o, ho, hc⟩ := (hr Bx e.symm).2
      have h2' : W.heap[Bx]? = _ := h2
      rw [h2'] at ho
      injection ho with ho
      rw [← ho] at hc
      cases hc)
    ?assign ?body ?done ?stop
  case assign =>
    rintro lk pre ⟨⟨x1, x2, k, ⟨rl, rk, rkey, rval⟩, ⟨pl, pk, pa, pn, pkey⟩, ⟨ec, eb, ef, es⟩⟩, hx⟩ W K hi hK
    simp only [encl, lcv]
    gi_wp2
    have hsW := hi.2.2.size
    exact hK _ _ ((KeepsOthers.alloc _ _).from _) ((KeepS.refl _).alloc (sc_lt (by omega)) _) (hi.alloc hs4.symm _) ⟨W.heap.size, by omega, Blk.new W 61 (lcv (x1, x2, ⟨k, ⟨rl, rk, rkey, rval⟩, ⟨pl, pk, pa, pn, pkey⟩, ⟨ec, eb, ef, es⟩⟩)), rfl⟩
  case body =>
    rintro lk pre ⟨⟨x1, x2, f⟩, hx⟩ a' W hlk _ ⟨⟨vc, be, j⟩, hb, hS⟩ ⟨Bx, hBx, hblk, rfl⟩ hlen
    have hxl : x1 + x2 ≤ l.length := hx.1
    have hx9 : 9 ≤ x2 := hx.2.1
    rw [List.length_map] at hb
    have HMP : Hid ((pre ++ [(⟨(x1, x2, f), hx⟩ : PL l.length)]).map Subtype.val = pre.map Subtype.val ++ [(x1, x2, f)]) := by
      show _ = _
      rw [List.map_append, List.map_singleton]
    have hpn : pre.length ≤ 10000000 := by omega
    have hpm : pre.length * l.length ≤ 10000000 * 10000000 := Nat.mul_le_mul hpn hl
    have hpm2 : pre.length * l.length + l.length = (pre.length + 1) * l.length := by rw [Nat.add_mul, Nat.one_mul]
    obtain ⟨vb, vo, vcap, rfl, hcap1, hcap2, hvb, hrow⟩ : ∃ vb vo vcap, a = some ⟨vb, vo, none⟩ ∧ l.length ≤ c ∧ c ≤ maxLen ∧ vb < N ∧ IsB W (.slice (some ⟨vb, vo, none⟩) l.length c) l ∧ vcap = 0 := by
      obtain ⟨h1, h2, ⟨rfl, _⟩ | ⟨nb, no, nc, e1, h3, h4, hnb, hnr⟩⟩ := HI.out
      · simp at hxl; omega
      · injection e1 with e1 e2 e3
        subst e1 e3
        refine ⟨nb, no, 0, rfl, h3, h4, by have := HN.out; omega, ?_, rfl⟩
        exact (HI.out.below (HN.out ▸ hB4.out)).keepS (S := SC N) (fun b off n c' e => by injection e with e e2 e3; injection e with e; injection e with e; have := HN.out; left; omega) hS
    obtain ⟨hrow, _⟩ := hrow
    obtain ⟨ca, cc, hvc, hcl⟩ := j.shape
    obtain ⟨CL, hCL⟩ : ∃ CL, CL = cln l (pre.map Subtype.val) := ⟨_, rfl⟩
    rw [← hCL] at j hb hvc hcl
    have HCL := hd hCL
    clear hCL
    subst hvc
    have hsub : IsB W (.slice (some ⟨vb, vo + x1, none⟩) x2 (c - x1)) ((l.drop x1).take x2) := by
      have h1 := hrow.drop x1 (by omega) (vo + x1) (l.length - x1) (c - x1) (fun _ => rfl) rfl rfl
      exact h1.take x2 (by rw [List.length_drop]; omega)
    have hsl : ((l.drop x1).take x2).length = x2 := by rw [List.length_take, List.length_drop]; omega
    obtain ⟨SB, hSB⟩ : ∃ SB, SB = (l.drop x1).take x2 := ⟨_, rfl⟩
    rw [← hSB] at hsub hsl
    have HSB := hd hSB
    clear hSB
    have hsW := hS.size
    obtain ⟨a2, c2, w2, hr2, j2, g2, k2⟩ := run_append_jk Tryz.underlying49 info_u8 49 W.drew (N + 4) (.slice ca CL.length cc) (.slice (some ⟨vb, vo + x1, none⟩) x2 (c - x1)) CL SB j.drew hsub (by omega) (by omega) (by show N + 4 ≤ W.heap.size; omega)
    rw [hsl] at hr2 j2 k2
    rw [append_hide] at hr2
    have be2 : Boxed w2 (N + 1) 49 (.slice ca CL.length cc) := Boxed.kept (W := W.drew) be g2 (JK.not_box (B := N + 1) (t := 49) (u := .slice ca CL.length cc) be (by decide) j.drew)
    have g2' : W.grownBy w2 (Value.slice ca CL.length cc).ownBlock := ⟨g2.os, g2.tape, g2.output, g2.size, g2.block⟩
    have hs2 : W.heap.size ≤ w2.heap.size := g2.size
    have HFIN : Hid (ClInv N l w4 ((pre ++ [(⟨(x1, x2, f), hx⟩ : PL l.length)]).map Subtype.val) (w2.setCell ⟨N + 1, 0, none⟩ (.slice a2 (CL.length + x2) c2)) ∧ KeepsOthers W (w2.setCell ⟨N + 1, 0, none⟩ (.slice a2 (CL.length + x2) c2)) ∧ KeepS (SC N) W (w2.setCell ⟨N + 1, 0, none⟩ (.slice a2 (CL.length + x2) c2))) := by
      have k1 : KeepS (SC N) W w2 := (KeepS.refl W).grown g2' (sc_lt (by omega)) (fun g e h => by have := j.blk_ge g e; unfold SC at h; omega)
      have k3 : KeepS (SC N) W (w2.setCell ⟨N + 1, 0, none⟩ (.slice a2 (CL.length + x2) c2)) := k1.setCell (p := ⟨N + 1, 0, none⟩) (fun h => by have h' : N + 1 ≤ N ∨ N + 1 = N + 2 := h; omega) _
      refine ⟨⟨⟨_, be2.set _, ?_⟩, ?_, hS.trans k3⟩, (others_row j g2').trans (KeepsOthers.setCell _ _ _), k3⟩
      · rw [HMP.out, cln_snoc, ← HCL.out, ← HSB.out]
        exact j2.setO (p := ⟨N + 1, 0, none⟩) (fun g hg => by have := j2.blk_ge g hg; show g ≠ N + 1; omega) _
      · rw [HMP.out, cln_snoc, ← HCL.out, ← HSB.out, List.length_append, List.length_append, List.length_map, hsl, List.length_singleton]
        omega
    have cE := be.cell
    have fE := be2.frozen
    have cE2 := be2.cell
    have cX : W.cell? ⟨N, 0, none⟩ = some (.slice (some ⟨vb, vo, none⟩) l.length c) := (boxed_keepS BX4.out (Or.inl (Nat.le_refl _)) hS).cell
    have c14 : W.cell? ⟨Bx, 14, none⟩ = some (.int .i64 (x1 : Int)) := hblk.cell 14 _ rfl
    have c15 : W.cell? ⟨Bx, 15, none⟩ = some (.int .i64 (x2 : Int)) := hblk.cell 15 _ rfl
    have hne : ¬ c = x1 := by omega
    have hmx : Tryz.prog.follows .mixedOrders = true := by kernel_rfl
    unfold maxLen at hcap2
    clear be j hS hblk j2 g2 g2' k2 be2 hsub hrow
    have i1 : (0 : Int) ≤ (x1 : Int) := by omega
    have i2 : (x1 : Int) ≤ (x1 : Int) + (x2 : Int) := by omega
    have i3 : (x1 : Int) + (x2 : Int) ≤ (c : Int) := by omega
    have i4 : IntKind.i64.wrap ((x1 : Int) + (x2 : Int)) = (x1 : Int) + (x2 : Int) := by rw [IntKind.wrap_i64]; omega
    gi_wp2
    refine region_det (fun i => match i with
      | 0 => .slice ca CL.length cc
      | 1 => .slice (some ⟨vb, vo, none⟩) l.length c
      | 2 => .pointer (some ⟨Bx, 14, none⟩)
      | 3 => .int .i64 (x1 : Int)
      | 4 => .pointer (some ⟨Bx, 14, none⟩)
      | 5 => .int .i64 (x1 : Int)
      | 6 => .pointer (some ⟨Bx, 15, none⟩)
      | 7 => .int .i64 (x2 : Int)
      | 8 => .int .i64 ((x1 : Int) + (x2 : Int))
      | 9 => .slice (some ⟨vb, vo + x1, none⟩) x2 (c - x1)
      | 10 => .slice a2 (CL.length + x2) c2
      | _ => undef)
      (fun L w => (L.getD 10 false = false → L.getD 11 false = false ∧ w = W.drew) ∧ (L.getD 10 false = true → L.getD 11 false = false → w = w2) ∧ (L.getD 11 false = true → w = w2.setCell ⟨N + 1, 0, none⟩ (.slice a2 (CL.length + x2) c2)))
      hmx (by kernel_rfl) (by kernel_rfl) (by kernel_rfl) ⟨fun _ => ⟨rfl, rfl⟩, fun h => (by cases h), fun h => (by cases h)⟩ ?_ ?_
    · intro i o ho L a w hsz hLi hcl hW hout haf hon
      have e1 : a.tmps.getD 1 undef = .pointer (some ⟨N, 0, none⟩) := hout 1 (notDst_spec (by kernel_rfl))
      have e3 : a.tmps.getD 3 undef = .pointer (some ⟨N + 1, 0, none⟩) := hout 3 (notDst_spec (by kernel_rfl))
      have e4 : a.tmps.getD 4 undef = .pointer (some ⟨Bx, 0, none⟩) := hout 4 (notDst_spec (by kernel_rfl))
      have hsz2 : L.size = 12 := hsz
      clear hout
      match i, ho, hLi, haf, hon with
      | 0, ho, hLi, haf, hon =>
        obtain rfl := Option.some.inj ho
        have h10 : L.getD 10 false = false := by
          cases h : L.getD 10 false with
          | false => rfl
          | true =>
            exfalso
            have t0 := hcl 10 _ rfl h ⟨0, .data⟩ (by simp) rfl
            simp only at t0
            rw [hLi] at t0; cases t0
        obtain ⟨h11, rfl⟩ := hW.1 h10
        have eb' := getq e3
        have hfin := fun w' (hw' : w' = W.drew) => keep2 (L := L) (i := 0) (p := 10) (q := 11) (B := w2) (C := w2.setCell ⟨N + 1, 0, none⟩ (.slice a2 (CL.length + x2) c2)) (by omega) (by decide) (by decide) h10 h11 hw'
        clear haf hon hcl hW ho
        refine step_k (hfin _ rfl) fun K hK => ?_
        simp only [List.getElem_toArray, List.getElem_cons_zero] at hK ⊢
        clear hfin
        go_simp
        exact hK
      | 1, ho, hLi, haf, hon =>
        obtain rfl := Option.some.inj ho
        have h10 : L.getD 10 false = false := by
          cases h : L.getD 10 false with
          | false => rfl
          | true =>
            exfalso
            have t0 := hcl 10 _ rfl h ⟨9, .data⟩ (by simp) rfl
            have t1 := hcl 9 _ rfl t0 ⟨1, .data⟩ (by simp) rfl
            simp only at t1
            rw [hLi] at t1; cases t1
        obtain ⟨h11, rfl⟩ := hW.1 h10
        have eb' := getq e1
        have hfin := fun w' (hw' : w' = W.drew) => keep2 (L := L) (i := 1) (p := 10) (q := 11) (B := w2) (C := w2.setCell ⟨N + 1, 0, none⟩ (.slice a2 (CL.length + x2) c2)) (by omega) (by decide) (by decide) h10 h11 hw'
        clear haf hon hcl hW ho
        refine step_k (hfin _ rfl) fun K hK => ?_
        simp only [List.getElem_toArray, List.getElem_cons_succ, List.getElem_cons_zero] at hK ⊢
        clear hfin
        go_simp
        exact hK
      | 2, ho, hLi, haf, hon =>
        obtain rfl := Option.some.inj ho
        have h10 : L.getD 10 false = false := by
          cases h : L.getD 10 false with
          | false => rfl
          | true =>
            exfalso
            have t0 := hcl 10 _ rfl h ⟨9, .data⟩ (by simp) rfl
            have t1 := hcl 9 _ rfl t0 ⟨3, .data⟩ (by simp) rfl
            have t2 := hcl 3 _ rfl t1 ⟨2, .data⟩ (by simp) rfl
            simp only at t2
            rw [hLi] at t2; cases t2
        obtain ⟨h11, rfl⟩ := hW.1 h10
        have eb' := getq e4
        have hfin := fun w' (hw' : w' = W.drew) => keep2 (L := L) (i := 2) (p := 10) (q := 11) (B := w2) (C := w2.setCell ⟨N + 1, 0, none⟩ (.slice a2 (CL.length + x2) c2)) (by omega) (by decide) (by decide) h10 h11 hw'
        clear haf hon hcl hW ho
        refine step_k (hfin _ rfl) fun K hK => ?_
        simp only [List.getElem_toArray, List.getElem_cons_succ, List.getElem_cons_zero] at hK ⊢
        clear hfin
        go_simp
        exact hK
      | 3, ho, hLi, haf, hon =>
        obtain rfl := Option.some.inj ho
        have h10 : L.getD 10 false = false := by
          cases h : L.getD 10 false with
          | false => rfl
          | true =>
            exfalso
            have t0 := hcl 10 _ rfl h ⟨9, .data⟩ (by simp) rfl
            have t1 := hcl 9 _ rfl t0 ⟨3, .data⟩ (by simp) rfl
            simp only at t1
            rw [hLi] at t1; cases t1
        obtain ⟨h11, rfl⟩ := hW.1 h10
        have f2 : a.tmps.getD 10 undef = .pointer (some ⟨Bx, 14, none⟩) := haf ⟨2, .data⟩ (by simp) rfl 10 rfl
        have f2' := getq f2
        have hfin := fun w' (hw' : w' = W.drew) => keep2 (L := L) (i := 3) (p := 10) (q := 11) (B := w2) (C := w2.setCell ⟨N + 1, 0, none⟩ (.slice a2 (CL.length + x2) c2)) (by omega) (by decide) (by decide) h10 h11 hw'
        clear haf hon hcl hW ho
        refine step_k (hfin _ rfl) fun K hK => ?_
        simp only [List.getElem_toArray, List.getElem_cons_succ, List.getElem_cons_zero] at hK ⊢
        clear hfin
        go_simp
        exact hK
      | 4, ho, hLi, haf, hon =>
        obtain rfl := Option.some.inj ho
        have h10 : L.getD 10 false = false := by
          cases h : L.getD 10 false with
          | false => rfl
          | true =>
            exfalso
            have t0 := hcl 10 _ rfl h ⟨9, .data⟩ (by simp) rfl
            have t1 := hcl 9 _ rfl t0 ⟨8, .data⟩ (by simp) rfl
            have t2 := hcl 8 _ rfl t1 ⟨5, .data⟩ (by simp) rfl
            have t3 := hcl 5 _ rfl t2 ⟨4, .data⟩ (by simp) rfl
            simp only at t3
            rw [hLi] at t3; cases t3
        obtain ⟨h11, rfl⟩ := hW.1 h10
        have eb' := getq e4
        have hfin := fun w' (hw' : w' = W.drew) => keep2 (L := L) (i := 4) (p := 10) (q := 11) (B := w2) (C := w2.setCell ⟨N + 1, 0, none⟩ (.slice a2 (CL.length + x2) c2)) (by omega) (by decide) (by decide) h10 h11 hw'
        clear haf hon hcl hW ho
        refine step_k (hfin _ rfl) fun K hK => ?_
        simp only [List.getElem_toArray, List.getElem_cons_succ, List.getElem_cons_zero] at hK ⊢
        clear hfin
        go_simp
        exact hK
      | 5, ho, hLi, haf, hon =>
        obtain rfl := Option.some.inj ho
        have h10 : L.getD 10 false = false := by
          cases h : L.getD 10 false with
          | false => rfl
          | true =>
            exfalso
            have t0 := hcl 10 _ rfl h ⟨9, .data⟩ (by simp) rfl
            have t1 := hcl 9 _ rfl t0 ⟨8, .data⟩ (by simp) rfl
            have t2 := hcl 8 _ rfl t1 ⟨5, .data⟩ (by simp) rfl
            simp only at t2
            rw [hLi] at t2; cases t2
        obtain ⟨h11, rfl⟩ := hW.1 h10
        have f4 : a.tmps.getD 12 undef = .pointer (some ⟨Bx, 14, none⟩) := haf ⟨4, .data⟩ (by simp) rfl 12 rfl
        have f4' := getq f4
        have hfin := fun w' (hw' : w' = W.drew) => keep2 (L := L) (i := 5) (p := 10) (q := 11) (B := w2) (C := w2.setCell ⟨N + 1, 0, none⟩ (.slice a2 (CL.length + x2) c2)) (by omega) (by decide) (by decide) h10 h11 hw'
        clear haf hon hcl hW ho
        refine step_k (hfin _ rfl) fun K hK => ?_
        simp only [List.getElem_toArray, List.getElem_cons_succ, List.getElem_cons_zero] at hK ⊢
        clear hfin
        go_simp
        exact hK
      | 6, ho, hLi, haf, hon =>
        obtain rfl := Option.some.inj ho
        have h10 : L.getD 10 false = false := by
          cases h : L.getD 10 false with
          | false => rfl
          | true =>
            exfalso
            have t0 := hcl 10 _ rfl h ⟨9, .data⟩ (by simp) rfl
            have t1 := hcl 9 _ rfl t0 ⟨8, .data⟩ (by simp) rfl
            have t2 := hcl 8 _ rfl t1 ⟨7, .data⟩ (by simp) rfl
            have t3 := hcl 7 _ rfl t2 ⟨6, .data⟩ (by simp) rfl
            simp only at t3
            rw [hLi] at t3; cases t3
        obtain ⟨h11, rfl⟩ := hW.1 h10
        have eb' := getq e4
        have hfin := fun w' (hw' : w' = W.drew) => keep2 (L := L) (i := 6) (p := 10) (q := 11) (B := w2) (C := w2.setCell ⟨N + 1, 0, none⟩ (.slice a2 (CL.length + x2) c2)) (by omega) (by decide) (by decide) h10 h11 hw'
        clear haf hon hcl hW ho
        refine step_k (hfin _ rfl) fun K hK => ?_
        simp only [List.getElem_toArray, List.getElem_cons_succ, List.getElem_cons_zero] at hK ⊢
        clear hfin
        go_simp
        exact hK
      | 7, ho, hLi, haf, hon =>
        obtain rfl := Option.some.inj ho
        have h10 : L.getD 10 false = false := by
          cases h : L.getD 10 false with
          | false => rfl
          | true =>
            exfalso
            have t0 := hcl 10 _ rfl h ⟨9, .data⟩ (by simp) rfl
            have t1 := hcl 9 _ rfl t0 ⟨8, .data⟩ (by simp) rfl
            have t2 := hcl 8 _ rfl t1 ⟨7, .data⟩ (by simp) rfl
            simp only at t2
            rw [hLi] at t2; cases t2
        obtain ⟨h11, rfl⟩ := hW.1 h10
        have f6 : a.tmps.getD 14 undef = .pointer (some ⟨Bx, 15, none⟩) := haf ⟨6, .data⟩ (by simp) rfl 14 rfl
        have f6' := getq f6
        have hfin := fun w' (hw' : w' = W.drew) => keep2 (L := L) (i := 7) (p := 10) (q := 11) (B := w2) (C := w2.setCell ⟨N + 1, 0, none⟩ (.slice a2 (CL.length + x2) c2)) (by omega) (by decide) (by decide) h10 h11 hw'
        clear haf hon hcl hW ho
        refine step_k (hfin _ rfl) fun K hK => ?_
        simp only [List.getElem_toArray, List.getElem_cons_succ, List.getElem_cons_zero] at hK ⊢
        clear hfin
        go_simp
        exact hK
      | 8, ho, hLi, haf, hon =>
        obtain rfl := Option.some.inj ho
        have h10 : L.getD 10 false = false := by
          cases h : L.getD 10 false with
          | false => rfl
          | true =>
            exfalso
            have t0 := hcl 10 _ rfl h ⟨9, .data⟩ (by simp) rfl
            have t1 := hcl 9 _ rfl t0 ⟨8, .data⟩ (by simp) rfl
            simp only at t1
            rw [hLi] at t1; cases t1
        obtain ⟨h11, rfl⟩ := hW.1 h10
        have f5 : a.tmps.getD 13 undef = .int .i64 (x1 : Int) := haf ⟨5, .data⟩ (by simp) rfl 13 rfl
        have f5' := getq f5
        have f7 : a.tmps.getD 15 undef = .int .i64 (x2 : Int) := haf ⟨7, .data⟩ (by simp) rfl 15 rfl
        have f7' := getq f7
        have hfin := fun w' (hw' : w' = W.drew) => keep2 (L := L) (i := 8) (p := 10) (q := 11) (B := w2) (C := w2.setCell ⟨N + 1, 0, none⟩ (.slice a2 (CL.length + x2) c2)) (by omega) (by decide) (by decide) h10 h11 hw'
        clear haf hon hcl hW ho
        refine step_k (hfin _ rfl) fun K hK => ?_
        simp only [List.getElem_toArray, List.getElem_cons_succ, List.getElem_cons_zero] at hK ⊢
        clear hfin
        go_simp
        exact hK
      | 9, ho, hLi, haf, hon =>
        obtain rfl := Option.some.inj ho
        have h10 : L.getD 10 false = false := by
          cases h : L.getD 10 false with
          | false => rfl
          | true =>
            exfalso
            have t0 := hcl 10 _ rfl h ⟨9, .data⟩ (by simp) rfl
            simp only at t0
            rw [hLi] at t0; cases t0
        obtain ⟨h11, rfl⟩ := hW.1 h10
        have f1 : a.tmps.getD 9 undef = .slice (some ⟨vb, vo, none⟩) l.length c := haf ⟨1, .data⟩ (by simp) rfl 9 rfl
        have f1' := getq f1
        have f3 : a.tmps.getD 11 undef = .int .i64 (x1 : Int) := haf ⟨3, .data⟩ (by simp) rfl 11 rfl
        have f3' := getq f3
        have f8 : a.tmps.getD 16 undef = .int .i64 ((x1 : Int) + (x2 : Int)) := haf ⟨8, .data⟩ (by simp) rfl 16 rfl
        have f8' := getq f8
        have hfin := fun w' (hw' : w' = W.drew) => keep2 (L := L) (i := 9) (p := 10) (q := 11) (B := w2) (C := w2.setCell ⟨N + 1, 0, none⟩ (.slice a2 (CL.length + x2) c2)) (by omega) (by decide) (by decide) h10 h11 hw'
        clear haf hon hcl hW ho
        refine step_k (hfin _ rfl) fun K hK => ?_
        simp only [List.getElem_toArray, List.getElem_cons_succ, List.getElem_cons_zero] at hK ⊢
        clear hfin
        go_simp
        rw [show ((x1 : Int) + (x2 : Int)).toNat - x1 = x2 by omega]
        exact hK
      | 10, ho, hLi, haf, hon =>
        obtain rfl := Option.some.inj ho
        have f0 : a.tmps.getD 8 undef = .slice ca CL.length cc := haf ⟨0, .data⟩ (by simp) rfl 8 rfl
        have f0' := getq f0
        have f9 : a.tmps.getD 17 undef = .slice (some ⟨vb, vo + x1, none⟩) x2 (c - x1) := haf ⟨9, .data⟩ (by simp) rfl 17 rfl
        have f9' := getq f9
        obtain ⟨h11, rfl⟩ := hW.1 hLi
        have hfin := fun w' (hw' : w' = w2) => keep2b (L := L) (p := 10) (q := 11) (A := W.drew) (C := w2.setCell ⟨N + 1, 0, none⟩ (.slice a2 (CL.length + x2) c2)) (by omega) (by decide) h11 hw'
        clear haf hon hcl hW ho
        refine step_k (hfin _ rfl) fun K hK => ?_
        simp only [List.getElem_toArray, List.getElem_cons_succ, List.getElem_cons_zero] at hK ⊢
        clear hfin
        go_simp
        exact hK
      | 11, ho, hLi, haf, hon =>
        obtain rfl := Option.some.inj ho
        have f10 : a.tmps.getD 18 undef = .slice a2 (CL.length + x2) c2 := haf ⟨10, .data⟩ (by simp) rfl 18 rfl
        have f10' := getq f10
        have eb' := getq e3
        have h10 : L.getD 10 false = true := hon ⟨10, .data⟩ (by simp) rfl
        obtain rfl := hW.2.1 h10 hLi
        have hfin := fun w' (hw' : w' = w.setCell ⟨N + 1, 0, none⟩ (.slice a2 (CL.length + x2) c2)) => keep2c (L := L) (p := 10) (q := 11) (A := W.drew) (B := w) (by omega) (by decide) h10 hw'
        clear haf hon hcl hW ho
        refine step_k (hfin _ rfl) fun K hK => ?_
        simp only [List.getElem_toArray, List.getElem_cons_succ, List.getElem_cons_zero] at hK ⊢
        clear hfin
        go_simp
        exact hK
      | n + 12, ho, _, _, _ => simp at ho
    · intro L a w hall hW hdf hsz hout hval
      obtain rfl := hW.2.2 (hall 11 (by decide))
      exact ⟨HFIN.out.2.1.from _, HFIN.out.2.2, HFIN.out.1⟩
  case done =>
    rintro D ys V hD hys ⟨⟨ve, be, j⟩, hb, hS⟩ hKD
    gi_wp2
    refine HK.out _ _ ?_
    clear HK
    rw [hys] at j
    have cE := be.cell
    have HJ := hd j
    have HS := hd hS
    have HKD := hd hKD
    clear be j hS hys hKD hb
    gi_wp2
    refine ⟨by simp, .inl ⟨_, _, rfl, run_takeDeferred HKD.out, ?_⟩⟩
    have hN' := HN.out
    refine ⟨_, results_tmp rfl _ _ _, ve, rfl, ?_, ?_⟩
    · obtain ⟨q1, q2, q3⟩ := HJ.out.kept (grownBy_putObj' V D (.deferred none)) (fun r e => by cases e; exact ⟨_, HKD.out, rfl⟩)
      refine ⟨q1, q2, ?_⟩
      rcases q3 with q3 | ⟨g, cap, cur, e1, e2, e3⟩
      · exact .inl q3
      · exact .inr ⟨g, cap, cur, e1, by omega, e3⟩
    · rw [← hN']
      have b1 : Below N w V := hB4.out.trans (HS.out.below (fun g hg => Or.inl (by omega)))
      exact b1.trans (belowK_b (w := w) (by omega) V D _ _ (by have := hB4.out.size; omega) HKD.out rfl rfl)
  case stop =>
    rintro D c2 pre W hD hp h hK
    exact h.elim
end Vt
end Go.Proofs.YtolddolfpnkndaaGreat
