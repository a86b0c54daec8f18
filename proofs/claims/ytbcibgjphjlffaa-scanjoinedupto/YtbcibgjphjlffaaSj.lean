/-
  PROVED: for all texts a, b of bulk at most 1048576 the Go law ScanJoined answers true and changes nothing that came in: what is laid behind clean bytes is cut as by itself.
-/
import Derived.Test.YtbcibgjphjlffaaSc8
import Derived.JoinedCond
namespace Go.Proofs.Ytbcibgjphjlffaa
open Go.ChangeShapes Go.WideShapes Go.ChangeAt Go.RowKit Go.Shelf
namespace Sj
open Vt
set_option maxRecDepth 100000 in
set_option maxHeartbeats 2000000 in
/-- the law's sameExtents, of lists that are the same -/
theorem sameEx_is (v u : Value) (L : List Ex) (w : World) (b1 b2 : Nat) (h1 : JE w b1 v (L.map exv)) (h2 : JE w b2 u (L.map exv)) :
    Calls Try.prog 31 #[v, u] w fun e w' => e = .returned (.bool true) ∧ Below w.heap.size w w' := by
  obtain ⟨a1, c1, rfl, hc1⟩ := h1.shape
  obtain ⟨a2, c2, rfl, hc2⟩ := h2.shape
  have hLl := h1.len_le
  unfold maxLen at hLl
  rw [List.length_map] at hc1 hc2 hLl ⊢
  rw [List.length_map] at h1 h2
  have H1 := hd h1
  have H2 := hd h2
  clear h1 h2
  have hmx : Try.prog.follows .mixedOrders = true := by kernel_rfl
  go_enter Try.func31, Try.ntmps31
  go_wp2_with fail
  go_loopw [5] (fun i wr => ∃ k n : Nat, k ≤ L.length ∧ i = .int .i64 (k : Int) ∧ wr = w.drewN n) (fun i _ => L.length - (intOf i).toNat)
  case atStart => exact ⟨0, 0, by omega, rfl, rfl⟩
  case round =>
    obtain ⟨k, n, hk, rfl, rfl⟩ := hrel
    by_cases hlt : k < L.length
    · obtain ⟨⟨j, p, q⟩, hx⟩ : ∃ x, L[k]? = some x := ⟨L[k], List.getElem?_eq_getElem hlt⟩
      have hxm : (L.map exv)[k]? = some [.bool j, .int .i64 p, .int .i64 q] := by rw [List.getElem?_map, hx]; rfl
      have hne : L.map exv ≠ [] := by intro e; rw [e] at hxm; simp at hxm
      obtain ⟨g1, c1', hv1, hg1, hm1⟩ := H1.out.nn hne
      obtain ⟨g2, c2', hv2, hg2, hm2⟩ := H2.out.nn hne
      injection hv1 with e1 e2 e3
      subst e1 e3
      injection hv2 with e1' e2' e3'
      subst e1' e3'
      have r0 : (w.drewN n).cell? ⟨g1, k * 3, none⟩ = some (.bool j) := H1.out.at k _ 0 _ hxm rfl
      have r1 : (w.drewN n).cell? ⟨g1, k * 3 + 1, none⟩ = some (.int .i64 p) := H1.out.at k _ 1 _ hxm rfl
      have r2 : (w.drewN n).cell? ⟨g1, k * 3 + 2, none⟩ = some (.int .i64 q) := H1.out.at k _ 2 _ hxm rfl
      have s0 : (w.drewN n).cell? ⟨g2, k * 3, none⟩ = some (.bool j) := H2.out.at k _ 0 _ hxm rfl
      have s1 : (w.drewN n).cell? ⟨g2, k * 3 + 1, none⟩ = some (.int .i64 p) := H2.out.at k _ 1 _ hxm rfl
      have s2 : (w.drewN n).cell? ⟨g2, k * 3 + 2, none⟩ = some (.int .i64 q) := H2.out.at k _ 2 _ hxm rfl
      clear hxm hne hx e2 e2'
      obtain ⟨wq, hwq⟩ : ∃ wq, wq = w.drewN n := ⟨_, rfl⟩
      rw [← hwq] at r0 r1 r2 s0 s1 s2 ⊢
      have HWQ := hd hwq
      clear hwq
      go_wp2_with fail
      go_quiet (fail)
      go_wp2_with fail
      go_roundw
      case rel =>
        obtain ⟨q2, h2⟩ := drewN2 w n nq
        exact ⟨k + 1, q2, by omega, by go_num, by rw [HWQ.out]; exact h2⟩
      case measure => simp [intOf]; omega
    · obtain rfl : k = L.length := by omega
      go_wp2_with fail
      go_ret
      exact ⟨rfl, ⟨rfl, rfl, rfl, Nat.le_refl _, fun _ _ => rfl⟩⟩
/-- a row of bytes lies as it lay where something was put behind a row of structs -/
theorem jk_grownJ {k : IntKind} {M : Nat} {E E' : TypeId} {sz : Nat} {w w' : World} {b1 b2 : Nat} {v u : Value} {l : List Nat} {m : List (List Value)} (h : JK k M E w b1 v l) (hr : JR E' sz w b2 u m) (hne : E ≠ E') (hg : w.grownBy w' u.ownBlock) : JK k M E w' b1 v l := by
  refine h.grownO hg fun g hgb e => ?_
  obtain ⟨_, _, ⟨rfl, _⟩ | ⟨g1, cap1, cur1, rfl, _, hh1, _⟩⟩ := h
  · cases hgb
  · obtain ⟨_, _, ⟨rfl, _⟩ | ⟨g2, cap2, cur2, rfl, _, hh2, _⟩⟩ := hr
    · cases e
    · cases hgb
      injection e with e
      have e' : g1 = g2 := e
      subst e'
      rw [hh1] at hh2
      injection hh2 with hh2
      injection hh2 with _ hh2
      exact hne hh2
theorem tiles_bound {l : List Nat} : ∀ (E : List Ex) (at_ : Nat) (pj : Bool), Tiles l at_ pj E → ∀ x ∈ E, 0 ≤ x.2.1 ∧ x.2.1 ≤ (l.length : Int) := by
  intro E
  induction E with
  | nil => intro at_ pj _ x hx; cases hx
  | cons y r ih =>
    intro at_ pj h x hx
    obtain ⟨n, h1, h2, h3, h4, _, _, _, h8⟩ := h
    rcases List.mem_cons.1 hx with rfl | hx
    · rw [h1]; omega
    · exact ih _ _ h8 x hx
set_option maxRecDepth 100000 in
set_option maxHeartbeats 4000000 in
theorem walkB (v u : Value) (l b : List Nat) (w : World) (hI : IsB w v l) (hU : IsB w u b) (hm : l.length + b.length ≤ 1048576) :
    Calls Try.prog 6 #[v, u] w fun e w' => e = .returned (.bool true) ∧ Below w.heap.size w w' := by
  obtain ⟨a, c, rfl⟩ := hI.shape
  obtain ⟨ub, uc, rfl⟩ := hU.shape
  have HU := hd hU
  have HI := hd hI
  obtain ⟨fs, hfs, hfit, _⟩ := cln_all hI.1
  have hcl := cln_len hI.1
  have HJN := hd (exts_join hfit hU.1)
  have HBY := hd (ens_byt hfit)
  have HUB := hd hU.1
  have hel := exts_len hU.1
  rw [hfs] at hcl
  have HFS := hd hfs
  obtain ⟨C, hC⟩ : ∃ C, C = ens fs := ⟨_, rfl⟩
  rw [← hC] at HJN HBY hcl HFS
  have hel2 := exts_len HBY.out
  clear hfs hfit hC hI hU
  obtain ⟨M, hM⟩ : ∃ M, M = exts b := ⟨_, rfl⟩
  have HM := hd hM
  have HTB := hd (tiles_bound _ 0 false (tiles HUB.out))
  rw [← hM] at HTB
  rw [← hM] at hel HJN
  clear hM
  obtain ⟨EC, hEC⟩ : ∃ EC, EC = exts C := ⟨_, rfl⟩
  have HEC := hd hEC
  rw [← hEC] at hel2 HJN
  clear hEC
  go_enter Try.func6, Try.ntmps6
  go_wp2_with fail
  refine Calls.mono (clean_is _ l w HI.out (by omega)) ?_
  rintro e w1 ⟨u1, rfl, j1, b1⟩
  rw [HFS.out] at j1
  obtain ⟨a1, c1, rfl, hc1⟩ := JK.shape (k := .u8) (M := 256) (E := 5) j1
  have I1 := hd j1.isB
  have U1 := hd (HU.out.below b1)
  have B1 := hd b1
  clear j1 b1 HI HU HFS
  have tok1 : True := trivial
  go_wp2_with (first
    | (at_builtin; have _t := tok1; refine wpList_append_jk Try.underlying22 info_u8 _ rfl _ _ rfl w1.heap.size (.slice none 0 0) (.slice a1 C.length c1) [] C rfl rfl (jk_nil _ _) I1.out C.length (by simp) C rfl (by omega) (by omega) (Nat.le_refl _) ?_; intro a2 c2 w2 hj2 hg2 hk2 hc2; clear tok1; have tok2 : True := trivial; have b2 : Below w1.heap.size w1 w2 := (Below.refl _ w1).grown hg2 (Nat.le_refl _) (fun k e => by cases e); have hs2 := b2.size; clear hk2)
    | (at_builtin; have _t := tok2; refine wpList_append_jk Try.underlying22 info_u8 _ rfl _ _ rfl w1.heap.size (.slice a2 C.length c2) (.slice ub b.length uc) C b rfl rfl hj2 (U1.out.below b2) (C.length + b.length) rfl (C ++ b) rfl (by omega) (by omega) hs2 ?_; intro a3 c3 w3 hj3 hg3 hk3 hc3; clear tok2; have b3 := b2.grown hg3 hs2 (fun k e => hj2.blk_ge k e); have hs3 := b3.size; clear hk3))
  have J3 := hd hj3
  have I3 := hd (I1.out.below b3)
  have U3 := hd (U1.out.below b3)
  have B3 := hd (B1.out.trans (b3.mono B1.out.size))
  clear hj2 hg2 hj3 hg3 b2 b3 I1 U1
  refine Calls.mono (extents_is _ C w3 I3.out (by omega)) ?_
  rintro e w4 ⟨u4, rfl, j4, b4⟩
  rw [← HEC.out] at j4
  have J4 := hd (J3.out.keepAll b4)
  have U4 := hd (U3.out.below b4)
  have B4 := hd (B3.out.trans (b4.mono B3.out.size))
  have JL4 := hd j4
  have hs4 := b4.size
  have B4s : w.heap.size ≤ w3.heap.size := B3.out.size
  clear b4 j4 I3 J3 U3 B3
  obtain ⟨a4, c4, rfl, hc4⟩ := JL4.out.shape
  rw [List.length_map] at hc4 JL4 ⊢
  go_wp2_with fail
  refine Calls.mono (extents_is _ b w4 U4.out (by omega)) ?_
  rintro e w5 ⟨u5, rfl, j5, b5⟩
  rw [← HM.out] at j5
  have J5 := hd (J4.out.keepAll b5)
  have B5 := hd (B4.out.trans (b5.mono B4.out.size))
  have JL5 := hd (JL4.out.keepAll b5)
  have JM5 := hd j5
  have hs5 := b5.size
  have hl4 := JL4.out.blk_lt
  have HL4 := hd hl4
  clear b5 j5 U4 J4 B4 JL4 hl4
  obtain ⟨a5, c5, rfl, hc5⟩ := JM5.out.shape
  rw [List.length_map] at hc5 JM5 ⊢
  go_wp2_with fail
  go_loopw [7, 9] (fun p i wr => ∃ k : Nat, k ≤ M.length ∧ i = .int .i64 (k : Int) ∧ JE wr w3.heap.size p ((EC ++ (M.take k).map (exsh C.length)).map exv) ∧ (∀ g, p.ownBlock = some g → some g ≠ (Value.slice a5 M.length c5).ownBlock) ∧ JE wr w4.heap.size (.slice a5 M.length c5) (M.map exv) ∧ JK .u8 256 5 wr w1.heap.size (.slice a3 (C.length + b.length) c3) (C ++ b) ∧ Below w.heap.size w wr ∧ w5.heap.size ≤ wr.heap.size) (fun _ i _ => M.length - (intOf i).toNat)
  case atStart => exact ⟨0, by omega, rfl, by rw [List.take_zero, List.map_nil, List.append_nil]; exact JL5.out, fun g hg e => by have := HL4.out g hg; have := JM5.out.blk_ge g e.symm; omega, JM5.out, J5.out, B5.out, Nat.le_refl _⟩
  case round =>
    obtain ⟨k, hk, rfl, jl, hap, jm, ja, hbr, hsr⟩ := hrel
    have hln : (EC ++ (M.take k).map (exsh C.length)).length = EC.length + k := by rw [List.length_append, List.length_map, List.length_take]; omega
    obtain ⟨al, cl, hp, hcl2⟩ := jl.shape
    rw [List.length_map, hln] at hp hcl2
    subst hp
    have JL := hd jl
    have JM := hd jm
    have JA := hd ja
    have HAP := hd hap
    have HBR := hd hbr
    clear jl jm ja hap hbr
    by_cases hlt : k < M.length
    · obtain ⟨⟨j, p, q⟩, hx⟩ : ∃ x, M[k]? = some x := ⟨M[k], List.getElem?_eq_getElem hlt⟩
      have hpb := HTB.out _ (List.mem_of_getElem? hx)
      simp only at hpb
      have hxm : (M.map exv)[k]? = some [.bool j, .int .i64 p, .int .i64 q] := by rw [List.getElem?_map, hx]; rfl
      have hne : M.map exv ≠ [] := by intro e; rw [e] at hxm; simp at hxm
      obtain ⟨g, c5', hv, hgc, hgm⟩ := JM.out.nn hne
      injection hv with e1 e2 e3
      subst e1 e3
      have r0 : wr.cell? ⟨g, k * 3, none⟩ = some (.bool j) := JM.out.at k _ 0 _ hxm rfl
      have r1 : wr.cell? ⟨g, k * 3 + 1, none⟩ = some (.int .i64 p) := JM.out.at k _ 1 _ hxm rfl
      have r2 : wr.cell? ⟨g, k * 3 + 2, none⟩ = some (.int .i64 q) := JM.out.at k _ 2 _ hxm rfl
      have HX := hd hx
      clear hxm hne e2 hx
      go_wp2_with (at_builtin; refine wpList_append_jr Try.underlying53 info_ex rfl (by decide) _ rfl _ _ rfl w3.heap.size (.slice al (EC.length + k) cl) ((EC ++ (M.take k).map (exsh C.length)).map exv) (wr.heap.size + 1) 1 [.bool j, .int .i64 (p + (C.length : Int)), .int .i64 q] rfl rfl ((JL.out.alloc _).alloc _) rfl (exv_one (j, p + (C.length : Int), q)) (fun i u hu => cell_lit (wr.alloc _) _ _ i u _ (by simp) hu) (EC.length + k + 1) (by rw [List.length_map, hln]) (by omega) (by unfold maxLen; omega) (by simp; omega) ?_; intro g2 c2 w2 hj2 hg2 hw2)
      have hs2 := hg2.size
      simp only [World.size_alloc] at hs2 hw2
      go_roundw
      case rel =>
        refine ⟨k + 1, by omega, by go_num, ?_, ?_, ((JM.out.alloc _).alloc _).grownO hg2 (fun q hq e => HAP.out q e.symm hq.symm), jk_grownJ ((JA.out.keepAll ((Below.refl _ _).alloc (Nat.le_refl _) _)).keepAll ((Below.refl _ _).alloc (Nat.le_refl _) _)) ((JL.out.alloc _).alloc _) (by decide) hg2, ?_, by omega⟩
        · have e1 : (EC ++ (M.take (k + 1)).map (exsh C.length)).map exv = (EC ++ (M.take k).map (exsh C.length)).map exv ++ [[.bool j, .int .i64 (p + (C.length : Int)), .int .i64 q]] := by
            rw [List.take_add_one, HX.out, Option.toList_some]
            simp only [List.map_append, List.map_cons, List.map_nil, List.append_assoc]
            rw [show exv (exsh C.length (j, p, q)) = [.bool j, .int .i64 (p + (C.length : Int)), .int .i64 q] by unfold exv exsh; rw [Int.add_comm]]
          rw [e1]
          exact hj2
        · intro q hq e
          cases hq
          cases e
          rcases hw2 with h | h
          · exact HAP.out _ h rfl
          · have h3 : g < wr.heap.size := JM.out.blk_lt g rfl
            omega
        · exact ((HBR.out.alloc HBR.out.size _).alloc (by have := HBR.out.size; simp; omega) _).grown hg2 (by have := HBR.out.size; simp; omega) (fun q hq => by have := JL.out.blk_ge q hq; have := B4s; omega)
      case measure => simp [intOf]; omega
    · obtain rfl : k = M.length := by omega
      rw [List.take_length] at JL
      go_wp2_with fail
      have HAI := hd JA.out.isK
      refine Calls.mono (extents_is _ (C ++ b) wr HAI.out (by rw [List.length_append]; omega)) ?_
      rintro e w7 ⟨u7, rfl, j7, b7⟩
      rw [HJN.out] at j7
      have JL7 := hd (JL.out.keepAll b7)
      have J7 := hd j7
      have B7 := hd (HBR.out.trans (b7.mono HBR.out.size))
      clear j7 b7
      obtain ⟨a7, c7, hv7, _⟩ := J7.out.shape
      rw [List.length_map, List.length_append, List.length_map] at hv7
      subst hv7
      go_wp2_with fail
      refine Calls.mono (sameEx_is _ _ (EC ++ M.map (exsh C.length)) w7 _ _ J7.out JL7.out) ?_
      rintro e w8 ⟨rfl, b8⟩
      have B8 := hd (B7.out.trans (b8.mono B7.out.size))
      clear b8
      go_wp2_with fail
      refine Calls.mono (works_is w8) ?_
      rintro e w9 ⟨rfl, b9⟩
      have B9 := hd (B8.out.trans (b9.mono B8.out.size))
      clear b9
      go_wp2_with fail
      go_ret
      exact ⟨rfl, B9.out⟩
theorem walk (a0 : Option Addr) (len0 cap0 : Nat) (z0 : List Int) (a1 : Option Addr) (len1 cap1 : Nat) (z1 : List Int) (w : World) (w0 : IsRow .u8 w a0 len0 cap0 z0) (w1 : IsRow .u8 w a1 len1 cap1 z1) (hm : len0 + len1 ≤ 1048576) :
    Calls Try.prog 6 #[.slice a0 len0 cap0, .slice a1 len1 cap1] w fun e w' => e = .returned (.bool true) ∧ Below w.heap.size w w' := by
  obtain ⟨l, hl, hI⟩ := w0.isB
  obtain ⟨t, ht, hT⟩ := w1.isB
  exact walkB _ _ l t w hI hT (by omega)
/-- numbers weigh one each -/
theorem lits_bulk {H : Type} (k : IntKind) (zs : List Int) : zs.length ≤ Rows.uptoBulkAll (lits (H := H) k zs) := by
  induction zs with
  | nil => exact Nat.zero_le _
  | cons z r ih =>
    rw [show lits (H := H) k (z :: r) = .lit (.int k z) :: lits k r from rfl]
    simp only [Rows.uptoBulkAll, Rows.uptoBulk, List.length_cons]
    omega
set_option linter.unusedVariables false
set_option maxRecDepth 100000 in
theorem lifted (os : Os) (started : os.Started) (H : Type) (enc : TypeId × Value → H) (F : Stop.Interp) :
    ReturnsInHanded {} Try.checked os 6 .any ((Rows.OpenSpec.upto Rows.scanJoinedSpec).pre6 enc Try.prog Try.f6 Rows.scanJoinedUptoRow.domain false) (((Rows.OpenSpec.upto Rows.scanJoinedSpec).at F).post enc Try.prog Try.f6 false true false false) := by
  refine returnsInHanded_of_cond (C := Try.checked) (s := Rows.OpenSpec.upto Rows.scanJoinedSpec) (k := Rows.uptoSmall) rfl own started (by kernel_rfl) Try.func6
    (OpenSpec.witness (enc := enc) (C := Try.checked) (s := Rows.OpenSpec.upto Rows.scanJoinedSpec) (k := Rows.uptoSmall) rfl false ⟨#[], #[.slice none 0 0, .slice none 0 0], []⟩ 8 (by kernel_rfl) (by kernel_rfl) (by kernel_rfl)
      (x := ([.nil, .nil], [], [])) (by kernel_rfl) rfl (by kernel_rfl)) ?_
  intro W base args ds gs before hval0 hW _ hk0 _
  have hk : Rows.uptoBulkAll (ds ++ gs) ≤ 1048576 := of_decide_eq_true hk0
  clear hk0
  have hval : ∀ (j : Nat) t v, Try.f6.params[j]? = some t → args[j]? = some v → Value.okWide Try.prog W .any base t v := hval0
  have hW' := hW
  obtain ⟨p, q, hA0, hV, rfl, hfz, hnd⟩ := hW
  have hA : DataW.TrodAll enc Try.prog W 0 (fun _ => true) true Try.f6.params.toList args.toList ds p := hA0
  rw [Try.params6] at hA hval
  obtain ⟨v0, vs0, d0, ds0, p0, q0, hargs, rfl, rfl, h0, r0⟩ := trodAll_cons hA
  obtain ⟨v1, vs1, d1, ds1, p1, q1, rfl, rfl, rfl, h1, r1⟩ := trodAll_cons r0
  obtain ⟨rfl, rfl, rfl⟩ := trodAll_nil r1
  obtain rfl : args = #[v0, v1] := by cases args; simp_all
  obtain ⟨rfl, rfl⟩ := trodVars_none hV
  have opens_u8 : ∀ (v : Value) (d : DataW H) (pl : List MemPlace) (a : Option Addr) (len cap : Nat), v = .slice a len cap → DataW.Trod enc Try.prog W 0 (fun _ => true) true 22 v d pl → ∃ zs, IsRow .u8 W a len cap zs ∧ len ≤ Rows.uptoBulk d := by
    rintro v d pl a len cap rfl ⟨fuel, hf⟩
    rcases open_ints Try.underlying22 Try.underlying5 (by kernel_rfl) hf with ⟨hcs, _⟩ | ⟨x, l, c, zs, hcs, _, hl, hm, hz, hx, hcell, hwz⟩
    · simp [Value.cells] at hcs
      obtain ⟨rfl, rfl, rfl⟩ := hcs
      exact ⟨[], .inl ⟨rfl, rfl, rfl, rfl⟩, by omega⟩
    · simp [Value.cells] at hcs
      obtain ⟨rfl, rfl, rfl⟩ := hcs
      have hz2 : zs.length = cap := by simpa using hz
      simp only [Prod.mk.injEq] at hx
      refine ⟨zs, .inr ⟨_, rfl, hl, hm, hz2, hcell, hwz⟩, ?_⟩
      rw [hx.1]
      have h1 := lits_bulk (H := H) .u8 (zs.take len)
      rw [List.length_take] at h1
      simp only [Rows.uptoBulk]
      omega
  obtain ⟨a0, len0, cap0, rfl⟩ := okWide_slice Try.underlying22 (hval 0 22 v0 rfl rfl)
  obtain ⟨a1, len1, cap1, rfl⟩ := okWide_slice Try.underlying22 (hval 1 22 v1 rfl rfl)
  have k0 := h0
  have k1 := h1
  have lt0 : ∀ x ∈ p0, x.block < W.heap.size := by obtain ⟨m, hm⟩ := k0; exact DataW.trod_lt m _ _ _ hm
  have lt1 : ∀ x ∈ p1, x.block < W.heap.size := by obtain ⟨m, hm⟩ := k1; exact DataW.trod_lt m _ _ _ hm
  obtain ⟨z0, w0, b0⟩ := opens_u8 _ d0 p0 a0 len0 cap0 rfl h0
  obtain ⟨z1, w1, b1⟩ := opens_u8 _ d1 p1 a1 len1 cap1 rfl h1
  have hm : len0 + len1 ≤ 1048576 := by
    simp only [List.cons_append, Rows.uptoBulkAll] at hk
    omega
  clear hA0 hval0
  refine (walk a0 len0 cap0 z0 a1 len1 cap1 z1 W w0 w1 hm).mono fun e W' ⟨he, bel⟩ => ?_
  subst he
  exact ⟨_, rfl, _, _, _, [], _, [], hW', trodAll_mk1 (shut_bool Try.underlying4 _), (trodAll_cons_mk (Below.trod laidOut (by kernel_rfl) (of_decide_eq_true (by kernel_rfl)) k0 bel lt0) (trodAll_cons_mk (Below.trod laidOut (by kernel_rfl) (of_decide_eq_true (by kernel_rfl)) k1 bel lt1) trodAll_mk0)), rfl, bel.frame _, fun h => by cases h⟩
theorem over : Rows.ScanJoinedUptoSaid :=
  OpenClaim.holds_of_cond 6 Try.f6 rfl rfl rfl rfl rfl rfl rfl ⟨rfl, rfl, rfl, rfl, rfl⟩ rfl rfl rfl rfl rfl (by kernel_rfl) Try.func6 (by kernel_rfl)
    (of_decide_eq_true (by kernel_rfl)) (by unfold Func.isWrapper; first | (rw [if_pos (by decide +kernel)]; kernel_rfl) | (rw [if_neg (by decide +kernel)]; exact ⟨rfl, rfl⟩))
    (fun os started H enc _ F => lifted os started H enc F)
end Sj

theorem scanJoined_upto : Rows.ScanJoinedUptoSaid := Sj.over
#print axioms scanJoined_upto
end Go.Proofs.Ytbcibgjphjlffaa
