/-
  PROVED: for all texts b and tail the Go law EscapeHeads answers true and changes nothing that came in: bytes that cannot stand are told by what is ahead of them.
-/
import Derived.Test.YtojogadklhmkbaaE4
import Derived.Test.YtojogadklhmkbaaU1
import Derived.JoinedCond
namespace Go.Proofs.Ytojogadklhmkbaa
open Go.ChangeShapes Go.WideShapes Go.ChangeAt Go.RowKit
namespace Eheads
open Vt
/-- what cannot stand is told by its first byte, or its first two -/
theorem fs_take {r t : List Nat} (hne : r ≠ []) (h31 : (fs r).2.2 = 31) : (fs (r.take 1 ++ t)).2.2 = 31 := by
  cases r with
  | nil => exact absurd rfl hne
  | cons x q =>
    have h := fs_err (x :: q)
    have hx : x = 167 := by simp at h; omega
    subst hx
    rfl
theorem fs_take_two {r t : List Nat} (hl : 2 ≤ r.length) (h32 : (fs r).2.2 = 32) : (fs (r.take 2 ++ t)).2.2 = 32 := by
  match r, hl with
  | x :: y :: q, _ =>
    have h := fs_err (x :: y :: q)
    have hx : x = 166 := by simp at h; omega
    subst hx
    unfold fs at h32 ⊢
    simp at h32 ⊢
    by_cases h0 : y = 0
    · simp [h0] at h32
    · by_cases h1 : y = 1
      · simp [h1] at h32
      · simp [h0, h1]
theorem heads {l : List Nat} {e p : Nat} (h : badB 0 l = (e, p)) (he : e ≠ 0) (t : List Nat) :
    badB 0 (l.take p) = (0, 0) ∧ (e = 31 → badB 0 (l.take (p + 1) ++ t) = (e, p)) ∧ (e = 32 → p + 1 = l.length → badB 0 (l.take (p + 1)) = (e, p)) ∧ (e = 32 → p + 1 < l.length → badB 0 (l.take (p + 2) ++ t) = (e, p)) := by
  obtain ⟨q, r, hl, hr⟩ := Vt.part l
  subst hl
  rcases hr with rfl | ⟨h1, h2⟩
  · rw [part_fine.2] at h; exact absurd (congrArg Prod.fst h).symm he
  · have hp := (part_bad (p := q) h1 h2).2
    rw [h] at hp
    injection hp with hp1 hp2
    subst hp1 hp2
    have hpos : 0 < r.length := List.length_pos_iff.2 h1
    refine ⟨?_, fun h31 => ?_, fun h32 hl => ?_, fun h32 hl => ?_⟩
    · rw [List.take_left' rfl]; exact badB_wr q 0
    · have e1 := fs_take (t := t) h1 h31
      rw [List.take_append, List.take_of_length_le (by omega), show (wr q).length + 1 - (wr q).length = 1 by omega, List.append_assoc]
      have := (part_bad (p := q) (r := r.take 1 ++ t) (by cases r with | nil => exact absurd rfl h1 | cons x y => simp) (by omega)).2
      rw [this, e1, h31]
    · rw [List.length_append] at hl
      rw [List.take_of_length_le (by rw [List.length_append]; omega), h]
    · rw [List.length_append] at hl
      have e1 := fs_take_two (t := t) (by omega) h32
      rw [List.take_append, List.take_of_length_le (by omega), show (wr q).length + 2 - (wr q).length = 2 by omega, List.append_assoc]
      have := (part_bad (p := q) (r := r.take 2 ++ t) (by cases r with | nil => exact absurd rfl h1 | cons x y => simp) (by omega)).2
      rw [this, e1, h32]
set_option maxRecDepth 100000 in
set_option maxHeartbeats 1000000 in
theorem walkB (v vt : Value) (l t : List Nat) (w : World) (hI : IsB w v l) (hT : IsB w vt t) (hm : l.length + t.length ≤ 1048576) :
    Calls Try.prog 8 #[v, vt] w fun e w' => e = .returned (.bool true) ∧ Below w.heap.size w w' := by
  obtain ⟨a, c, rfl⟩ := hI.shape
  obtain ⟨at_, ct, rfl⟩ := hT.shape
  have HI := hd hI
  have HT := hd hT
  clear hI hT
  go_enter Try.func8, Try.ntmps8
  go_wp2_with fail
  refine Calls.mono (awake_is w) ?_
  rintro e w1 ⟨rfl, hb1⟩
  have HB1 := hd hb1
  have HI1 := hd (HI.out.below hb1)
  have HT1 := hd (HT.out.below hb1)
  clear hb1 HI HT
  go_wp2_with fail
  refine Calls.mono (open_is _ l w1 HI1.out (by omega)) ?_
  rintro e w2 ⟨u, rfl, hj2, hb2⟩
  have HB2 := hd (HB1.out.trans (hb2.mono HB1.out.size))
  have HI2 := hd (HI1.out.below hb2)
  have HT2 := hd (HT1.out.below hb2)
  clear hb2 hj2 HB1 HI1 HT1
  by_cases hz : (badB 0 l).1 = 0
  · have hbz := badB_zero hz
    rw [hbz]
    clear hbz hz
    go_wp2_with fail
    go_ret
    exact ⟨rfl, HB2.out⟩
  · obtain ⟨hlt, hpl⟩ := badB_place hz
    obtain ⟨d1, d2, hd2⟩ : ∃ d1 d2, badB 0 l = (d1, d2) := ⟨_, _, rfl⟩
    have HH := hd (heads hd2 (by rw [hd2] at hz; exact hz))
    rw [hd2] at hz hlt hpl ⊢
    simp only at hlt hpl hz
    clear hd2
    have hcap := HI2.out.cap
    have he2 : ((d1 : Int) == 0) = false := by simp; omega
    go_wp2_with fail
    refine Calls.mono (open_is _ (l.take d2) w2 (HI2.out.take d2 (by omega)) (by rw [List.length_take]; omega)) ?_
    rintro e w3 ⟨u3, rfl, hj3, hb3⟩
    rw [(HH.out []).1]
    have HB3 := hd (HB2.out.trans (hb3.mono HB2.out.size))
    have HI3 := hd (HI2.out.below hb3)
    have HT3 := hd (HT2.out.below hb3)
    clear hj3 hb3 HB2 HI2 HT2
    have hl1 : (l.take (d2 + 1)).length = d2 + 1 := by rw [List.length_take]; omega
    rcases hpl with ⟨rfl, _⟩ | ⟨rfl, _⟩
    · have tok1 : True := trivial
      generalize hG : l.take (d2 + 1) = G at *
      have HG := hd hG
      go_wp2_with (first
        | (at_builtin; have _t := tok1; refine wpList_append_jb _ rfl _ _ rfl w3.heap.size (.slice none 0 0) (.slice a (d2 + 1) c) [] G rfl rfl (jb_nil _ _) (hG ▸ HI3.out.take (d2 + 1) (by omega)) (d2 + 1) (by rw [hl1]; simp) G rfl (by omega) (Nat.le_refl _) ?_; intro a4 c4 w4 hj4 hg4 hc4; clear tok1; have tok2 : True := trivial; have hb4 := (jb_nil w3 w3.heap.size).grown (Below.refl w3.heap.size w3) (Nat.le_refl _) (Nat.le_refl _) hg4)
        | (at_builtin; have _t := tok2; refine wpList_append_jb _ rfl _ _ rfl w3.heap.size (.slice a4 (d2 + 1) c4) (.slice at_ t.length ct) G t rfl rfl hj4 (HT3.out.below hb4) (d2 + 1 + t.length) (by rw [hl1]) (G ++ t) rfl (by omega) hb4.size ?_; intro a5 c5 w5 hj5 hg5 hc5; clear tok2))
      have hb5 := hj4.grown hb4 (Nat.le_refl _) hb4.size hg5
      refine Calls.mono (open_is _ (G ++ t) w5 hj5.isB (by rw [List.length_append]; omega)) ?_
      rintro e w6 ⟨u6, rfl, hj6, hb6⟩
      rw [(HH.out t).2.1 trivial]
      have HB6 : Hid (Below w.heap.size w w6) := (HB3.out.trans (hb5.mono HB3.out.size)).trans (hb6.mono (Nat.le_trans HB3.out.size hb5.size))
      clear hj6 hb6
      go_wp2_with fail
      go_ret
      exact ⟨rfl, HB6.out⟩
    · by_cases hlast : d2 + 1 = l.length
      · have tok1 : True := trivial
        have hnl : ¬ ((d2 : Int) + 1 < (l.length : Int)) := by omega
        have hne2 : (((d2 : Int) + 1) == ((d2 : Int) + 2)) = false := by simp
        have HLAST := hd hlast
        clear hlast
        generalize hG : l.take (d2 + 1) = G at *
        have HG := hd hG
        go_wp2_with (at_builtin; have _t := tok1; refine wpList_append_jb _ rfl _ _ rfl w3.heap.size (.slice none 0 0) (.slice a (d2 + 1) c) [] G rfl rfl (jb_nil _ _) (hG ▸ HI3.out.take (d2 + 1) (by omega)) (d2 + 1) (by rw [hl1]; simp) G rfl (by omega) (Nat.le_refl _) ?_; intro a4 c4 w4 hj4 hg4 hc4; clear tok1; have tok2 : True := trivial; have hb4 := (jb_nil w3 w3.heap.size).grown (Below.refl w3.heap.size w3) (Nat.le_refl _) (Nat.le_refl _) hg4)
        refine Calls.mono (open_is _ G w4 hj4.isB (by omega)) ?_
        rintro e w6 ⟨u6, rfl, hj6, hb6⟩
        rw [(HH.out t).2.2.1 trivial HLAST.out]
        have HB6 : Hid (Below w.heap.size w w6) := (HB3.out.trans (hb4.mono HB3.out.size)).trans (hb6.mono (Nat.le_trans HB3.out.size hb4.size))
        clear hj6 hb6
        go_wp2_with fail
        go_ret
        exact ⟨rfl, HB6.out⟩
      · have hl2 : (l.take (d2 + 2)).length = d2 + 2 := by rw [List.length_take]; omega
        clear hl1
        have hl1 := hl2
        clear hl2
        have tok1 : True := trivial
        have hnl : ((d2 : Int) + 1 < (l.length : Int)) := by omega
        have hne2 : (((d2 : Int) + 2) == ((d2 : Int) + 2)) = true := by simp
        generalize hG : l.take (d2 + 2) = G at *
        have HG := hd hG
        go_wp2_with (first
        | (at_builtin; have _t := tok1; refine wpList_append_jb _ rfl _ _ rfl w3.heap.size (.slice none 0 0) (.slice a (d2 + 2) c) [] G rfl rfl (jb_nil _ _) (hG ▸ HI3.out.take (d2 + 2) (by omega)) (d2 + 2) (by rw [hl1]; simp) G rfl (by omega) (Nat.le_refl _) ?_; intro a4 c4 w4 hj4 hg4 hc4; clear tok1; have tok2 : True := trivial; have hb4 := (jb_nil w3 w3.heap.size).grown (Below.refl w3.heap.size w3) (Nat.le_refl _) (Nat.le_refl _) hg4)
        | (at_builtin; have _t := tok2; refine wpList_append_jb _ rfl _ _ rfl w3.heap.size (.slice a4 (d2 + 2) c4) (.slice at_ t.length ct) G t rfl rfl hj4 (HT3.out.below hb4) (d2 + 2 + t.length) (by rw [hl1]) (G ++ t) rfl (by omega) hb4.size ?_; intro a5 c5 w5 hj5 hg5 hc5; clear tok2))
        have hb5 := hj4.grown hb4 (Nat.le_refl _) hb4.size hg5
        refine Calls.mono (open_is _ (G ++ t) w5 hj5.isB (by rw [List.length_append]; omega)) ?_
        rintro e w6 ⟨u6, rfl, hj6, hb6⟩
        rw [(HH.out t).2.2.2 trivial (by omega)]
        have HB6 : Hid (Below w.heap.size w w6) := (HB3.out.trans (hb5.mono HB3.out.size)).trans (hb6.mono (Nat.le_trans HB3.out.size hb5.size))
        clear hj6 hb6
        go_wp2_with fail
        go_ret
        exact ⟨rfl, HB6.out⟩
theorem walk (a0 : Option Addr) (len0 cap0 : Nat) (z0 : List Int) (a1 : Option Addr) (len1 cap1 : Nat) (z1 : List Int) (w : World) (w0 : IsRow .u8 w a0 len0 cap0 z0) (w1 : IsRow .u8 w a1 len1 cap1 z1) (hm : len0 + len1 ≤ 1048576) :
    Calls Try.prog 8 #[.slice a0 len0 cap0, .slice a1 len1 cap1] w fun e w' => e = .returned (.bool true) ∧ Below w.heap.size w w' := by
  obtain ⟨l, hl, hI⟩ := w0.isB
  obtain ⟨t, ht, hT⟩ := w1.isB
  exact walkB _ _ l t w hI hT (by omega)
/-- numbers weigh one each -/
theorem lits_bulk {H : Type} (k : IntKind) (zs : List Int) : zs.length ≤ Rows.uptoBulkAll (lits (H := H) k zs) := by
  induction zs with
  | nil => exact Nat.zero_le _
  | cons z r ih =>
    rw [show lits (H := H) k (z :: r) = .lit (.int k z) :: lits k r from rfl]
    simp only [Rows.uptoBulkAll, Rows.uptoBulk, List.length_cons]
    omega
set_option linter.unusedVariables false
set_option maxRecDepth 100000 in
theorem lifted (os : Os) (started : os.Started) (H : Type) (enc : TypeId × Value → H) (F : Stop.Interp) :
    ReturnsInHanded {} Try.checked os 8 .any ((Rows.OpenSpec.upto Rows.escapeHeadsSpec).pre6 enc Try.prog Try.f8 Rows.escapeHeadsUptoRow.domain false) (((Rows.OpenSpec.upto Rows.escapeHeadsSpec).at F).post enc Try.prog Try.f8 false true false false) := by
  refine returnsInHanded_of_cond (C := Try.checked) (s := Rows.OpenSpec.upto Rows.escapeHeadsSpec) (k := Rows.uptoSmall) rfl own started (by kernel_rfl) Try.func8
    (OpenSpec.witness (enc := enc) (C := Try.checked) (s := Rows.OpenSpec.upto Rows.escapeHeadsSpec) (k := Rows.uptoSmall) rfl false ⟨#[], #[.slice none 0 0, .slice none 0 0], []⟩ 8 (by kernel_rfl) (by kernel_rfl) (by kernel_rfl)
      (x := ([.nil, .nil], [], [])) (by kernel_rfl) rfl (by kernel_rfl)) ?_
  intro W base args ds gs before hval0 hW _ hk0 _
  have hk : Rows.uptoBulkAll (ds ++ gs) ≤ 1048576 := of_decide_eq_true hk0
  clear hk0
  have hval : ∀ (j : Nat) t v, Try.f8.params[j]? = some t → args[j]? = some v → Value.okWide Try.prog W .any base t v := hval0
  have hW' := hW
  obtain ⟨p, q, hA0, hV, rfl, hfz, hnd⟩ := hW
  have hA : DataW.TrodAll enc Try.prog W 0 (fun _ => true) true Try.f8.params.toList args.toList ds p := hA0
  rw [Try.params8] at hA hval
  obtain ⟨v0, vs0, d0, ds0, p0, q0, hargs, rfl, rfl, h0, r0⟩ := trodAll_cons hA
  obtain ⟨v1, vs1, d1, ds1, p1, q1, rfl, rfl, rfl, h1, r1⟩ := trodAll_cons r0
  obtain ⟨rfl, rfl, rfl⟩ := trodAll_nil r1
  obtain rfl : args = #[v0, v1] := by cases args; simp_all
  obtain ⟨rfl, rfl⟩ := trodVars_none hV
  have opens_u8 : ∀ (v : Value) (d : DataW H) (pl : List MemPlace) (a : Option Addr) (len cap : Nat), v = .slice a len cap → DataW.Trod enc Try.prog W 0 (fun _ => true) true 22 v d pl → ∃ zs, IsRow .u8 W a len cap zs ∧ len ≤ Rows.uptoBulk d := by
    rintro v d pl a len cap rfl ⟨fuel, hf⟩
    rcases open_ints Try.underlying22 Try.underlying5 (by kernel_rfl) hf with ⟨hcs, _⟩ | ⟨x, l, c, zs, hcs, _, hl, hm, hz, hx, hcell, hwz⟩
    · simp [Value.cells] at hcs
      obtain ⟨rfl, rfl, rfl⟩ := hcs
      exact ⟨[], .inl ⟨rfl, rfl, rfl, rfl⟩, by omega⟩
    · simp [Value.cells] at hcs
      obtain ⟨rfl, rfl, rfl⟩ := hcs
      have hz2 : zs.length = cap := by simpa using hz
      simp only [Prod.mk.injEq] at hx
      refine ⟨zs, .inr ⟨_, rfl, hl, hm, hz2, hcell, hwz⟩, ?_⟩
      rw [hx.1]
      have h1 := lits_bulk (H := H) .u8 (zs.take len)
      rw [List.length_take] at h1
      simp only [Rows.uptoBulk]
      omega
  obtain ⟨a0, len0, cap0, rfl⟩ := okWide_slice Try.underlying22 (hval 0 22 v0 rfl rfl)
  obtain ⟨a1, len1, cap1, rfl⟩ := okWide_slice Try.underlying22 (hval 1 22 v1 rfl rfl)
  have k0 := h0
  have k1 := h1
  have lt0 : ∀ x ∈ p0, x.block < W.heap.size := by obtain ⟨m, hm⟩ := k0; exact DataW.trod_lt m _ _ _ hm
  have lt1 : ∀ x ∈ p1, x.block < W.heap.size := by obtain ⟨m, hm⟩ := k1; exact DataW.trod_lt m _ _ _ hm
  obtain ⟨z0, w0, b0⟩ := opens_u8 _ d0 p0 a0 len0 cap0 rfl h0
  obtain ⟨z1, w1, b1⟩ := opens_u8 _ d1 p1 a1 len1 cap1 rfl h1
  have hm : len0 + len1 ≤ 1048576 := by
    simp only [List.cons_append, Rows.uptoBulkAll] at hk
    omega
  clear hA0 hval0
  refine (walk a0 len0 cap0 z0 a1 len1 cap1 z1 W w0 w1 hm).mono fun e W' ⟨he, bel⟩ => ?_
  subst he
  exact ⟨_, rfl, _, _, _, [], _, [], hW', trodAll_mk1 (shut_bool Try.underlying4 _), (trodAll_cons_mk (Below.trod laidOut (by kernel_rfl) (of_decide_eq_true (by kernel_rfl)) k0 bel lt0) (trodAll_cons_mk (Below.trod laidOut (by kernel_rfl) (of_decide_eq_true (by kernel_rfl)) k1 bel lt1) trodAll_mk0)), rfl, bel.frame _, fun h => by cases h⟩
theorem over : Rows.EscapeHeadsUptoSaid :=
  OpenClaim.holds_of_cond 8 Try.f8 rfl rfl rfl rfl rfl rfl rfl ⟨rfl, rfl, rfl, rfl, rfl⟩ rfl rfl rfl rfl rfl (by kernel_rfl) Try.func8 (by kernel_rfl)
    (of_decide_eq_true (by kernel_rfl)) (by unfold Func.isWrapper; first | (rw [if_pos (by decide +kernel)]; kernel_rfl) | (rw [if_neg (by decide +kernel)]; exact ⟨rfl, rfl⟩))
    (fun os started H enc _ F => lifted os started H enc F)
end Eheads

theorem escapeHeads_upto : Rows.EscapeHeadsUptoSaid := Eheads.over
#print axioms escapeHeads_upto
end Go.Proofs.Ytojogadklhmkbaa
