/-
  THE LAW'S works(): junk and two frames, as the chapter fixes it: it answers true.
  EXTENTS COVER EVERY BYTE ONCE, plainly: they lie end to end; at a frame's first byte a frame is read, at no other place.
  CLEAN BYTES, plainly: frames one behind the other; what is laid behind them is cut as by itself.
  PARTS AND DAMAGE, plainly: a part has just the frames that lie in it whole; where a byte is changed all frames that do not hold it stay.
  A REGION THAT DRAWS ITS ORDER, WITHIN A FENCE, AS Rd HAS IT; what is not yet listed has not yet written; the world of a region with two operations that turn it.
  THE WALK OF the law's own lent (layer 5): bytes that are lent, with marked places behind them.
  THE LAW'S spots AND has: the places of the frames, as Extents tells them.
  salvorlaw5.sameExtents of two rows of the same extents.
  THE WALK OF the law's 'same' (are two lists of bytes the same?).
-/
import Derived.Test.YtabfgoojhangnaaXebf
import Derived.Test.YtabfgoojhangnaaXeba
import Derived.Test.YtabfgoojhangnaaXebg
import Derived.Test.YtabfgoojhangnaaXebh
import Derived.Test.YtabfgoojhangnaaXeay
import Derived.Test.YtabfgoojhangnaaXebe
import Derived.Test.YtabfgoojhangnaaXeab
import Derived.Test.YtabfgoojhangnaaXeam
namespace Go.Proofs.Ytabfgoojhangnaa
open Go.RowKit Go.Shelf
namespace Vt
/-- a Put of the key tea -/
def tf (n : Nat) : Fr := ⟨1, ⟨n, 1, ⟨#[116, 101, 97]⟩, ⟨#[103, 114, 101, 101, 110]⟩⟩, zp, ze⟩
theorem tf_wf {n : Nat} (h : n < 18446744073709551616) : (tf n).Wf := ⟨h, (by decide : (0 : Nat) < 18446744073709551616), (by decide : (0 : Nat) < 4294967296)⟩
theorem tf_rf {n : Nat} (h : n ≠ 0) : rf (tf n) = 0 := by
  have e : rf (tf n) = rfR (tf n) := by unfold rf; rw [if_pos (show (tf n).kind = 1 ∨ (tf n).kind = 2 from Or.inl rfl)]
  rw [e]
  unfold rfR
  rw [if_neg (show ¬ ((tf n).r.kind ≠ (tf n).kind) from fun q => q rfl), if_neg (show ¬ ((tf n).r.lsn = 0) from h), if_neg (show ¬ ¬ mayKey (tf n).r.key from fun q => q ⟨(by decide : 1 ≤ 3), (by decide : 3 ≤ 64)⟩), if_neg (show ¬ ((if (tf n).r.kind = 2 then 0 else 2048) < (tf n).r.val.size) from by show ¬ ((if (1 : Int) = 2 then 0 else 2048) < 5); decide), if_neg (show ¬ (tf n ≠ ofR (tf n).r) from fun q => q rfl)]
set_option maxRecDepth 100000 in
theorem tea_is (n : Nat) (w : World) (h0 : n ≠ 0) (h : n < 18446744073709551616) :
    Calls Try.prog 23 #[.int .u64 (n : Int)] w fun e w' => ∃ u, e = .returned u ∧ JB w' w.heap.size u (en (tf n)) ∧ Below w.heap.size w w' := by
  have HC := hd (encF_all (tf_wf h) (tf_rf h0) w)
  have HF : Hid (fv (tf n) = #[.int .i64 1, .int .u64 (n : Int), .int .i64 1, .string ⟨#[116, 101, 97]⟩, .string ⟨#[103, 114, 101, 101, 110]⟩, .int .u64 0, .int .i64 0, .int .i64 0, .int .i64 0, .string ⟨#[]⟩, .int .i64 0, .int .i64 0, .int .i64 0, .int .u32 0]) := rfl
  rw [HF.out] at HC
  clear HF
  go_enter Try.func23, Try.ntmps23
  go_wp2_with fail
  refine Calls.mono HC.out ?_
  rintro e w1 ⟨u, rfl, hj, hb⟩
  obtain ⟨a, c, rfl, _⟩ := JK.shape (k := .u8) (M := 256) (E := 5) hj
  have HJ := hd hj
  clear hj
  go_wp2_with fail
  go_ret
  exact ⟨_, rfl, HJ.out, hb⟩
/-- junk and two frames -/
def two : List Nat := [1, 2] ++ (en (tf 1) ++ en (tf 2))
theorem en_byt {f : Fr} (h : rf f = 0) : Byt (en f) := by
  rw [en_eq]
  intro x hx
  rcases List.mem_cons.1 hx with rfl | hx
  · decide
  · exact byt_app (dg_byt _ _) (byt_app (wr_byt (bd_byt h)) (dg_byt _ _)) x hx
theorem two_byt : Byt two := by
  unfold two
  exact byt_app (by intro x hx; simp at hx; omega) (byt_app (en_byt (tf_rf (by decide))) (en_byt (tf_rf (by decide))))
theorem two_locs : locs 0 two = [(2, (en (tf 1)).length, tf 1), (2 + (en (tf 1)).length, (en (tf 2)).length, tf 2)] := by
  have b1 := en_byt (tf_rf (n := 1) (by decide))
  have b2 := en_byt (tf_rf (n := 2) (by decide))
  unfold two
  rw [locs_junk (by intro x hx; simp at hx; omega) two_byt, locs_en (tf_wf (by decide)) (tf_rf (by decide)) (byt_app b1 b2)]
  have := locs_en (tf_wf (n := 2) (by decide)) (tf_rf (by decide)) (r := []) (by rw [List.append_nil]; exact b2) (0 + [1, 2].length + (en (tf 1)).length)
  rw [List.append_nil, locs_nil] at this
  rw [this]
  rfl
theorem two_exts : exts two = [(true, 0, 2), (false, 2, ((en (tf 1)).length : Int)), (false, 2 + ((en (tf 1)).length : Int), ((en (tf 2)).length : Int))] := by
  have hp := en_pos (tf 1)
  have hl : two.length = 2 + ((en (tf 1)).length + (en (tf 2)).length) := by unfold two; simp; omega
  rw [exts_eq, two_locs]
  generalize (en (tf 1)).length = m at *
  generalize (en (tf 2)).length = k at *
  rw [hl]
  simp only [exR, jk1]
  rw [if_neg (by decide), if_pos trivial, if_pos (by omega)]
  simp
theorem two_fst : fst two 0 = (2, ((en (tf 1)).length : Int)) := by
  have h : frm two.length 0 = 0 := by unfold frm; simp
  unfold fst
  rw [h, List.drop_zero, two_locs]; rfl
theorem two_cln : (cln two (locs 0 two)).length = (en (tf 1)).length + (en (tf 2)).length := by
  have hl : two.length = 2 + ((en (tf 1)).length + (en (tf 2)).length) := by unfold two; simp; omega
  rw [two_locs]
  unfold cln
  simp only [List.map_cons, List.map_nil, List.flatten_cons, List.flatten_nil, List.length_append, List.length_take, List.length_drop, List.length_nil, hl]
  omega
theorem en_len_le {f : Fr} (hw : f.Wf) (h : rf f = 0) : (en f).length ≤ 4409 := by
  have h1 := (bd_len hw h).1
  have h2 := (wr_len (bd f)).2
  rw [en_len]; omega
theorem two_len : two.length ≤ 10000 := by
  have h1 := en_len_le (tf_wf (n := 1) (by decide)) (tf_rf (by decide))
  have h2 := en_len_le (tf_wf (n := 2) (by decide)) (tf_rf (by decide))
  unfold two
  simp only [List.length_append, List.length_cons, List.length_nil]
  omega
set_option maxRecDepth 100000 in
set_option maxHeartbeats 2000000 in
theorem works_is (w : World) : Calls Try.prog 19 #[] w fun e w' => e = .returned (.bool true) ∧ Below w.heap.size w w' := by
  have h1 := en_len_le (tf_wf (n := 1) (by decide)) (tf_rf (by decide))
  have h2 := en_len_le (tf_wf (n := 2) (by decide)) (tf_rf (by decide))
  have hp1 := en_pos (tf 1)
  have hp2 := en_pos (tf 2)
  have HE := hd two_exts
  have HF := hd two_fst
  have HC := hd two_cln
  have HT : Hid (two = [1, 2] ++ (en (tf 1) ++ en (tf 2))) := rfl
  have HTL := hd two_len
  have HCN : Hid (∀ x : World, Calls Try.prog 23 #[.int .u64 1] x fun e w' => ∃ u, e = .returned u ∧ JB w' x.heap.size u (en (tf 1)) ∧ Below x.heap.size x w') := fun x => tea_is 1 x (by decide) (by decide)
  have HCN2 : Hid (∀ x : World, Calls Try.prog 23 #[.int .u64 2] x fun e w' => ∃ u, e = .returned u ∧ JB w' x.heap.size u (en (tf 2)) ∧ Below x.heap.size x w') := fun x => tea_is 2 x (by decide) (by decide)
  obtain ⟨A, hA⟩ : ∃ A, A = en (tf 1) := ⟨_, rfl⟩
  obtain ⟨B, hB⟩ : ∃ B, B = en (tf 2) := ⟨_, rfl⟩
  rw [← hA, ← hB] at HE
  rw [← hA] at HF h1 hp1
  rw [← hB] at h2 hp2
  rw [← hA, ← hB] at HC HT
  simp only [← hA] at HCN
  simp only [← hB] at HCN2
  clear hA hB
  have hne : ((A.length : Int) == 0) = false := by rw [beq_eq_false_iff_ne]; omega
  have hne2 : ¬ A = [] := by rintro rfl; simp at hp1
  go_enter Try.func19, Try.ntmps19
  go_wp2_with fail
  refine Calls.mono (HCN.out w) ?_
  rintro e w1 ⟨u1, rfl, j1, b1⟩
  obtain ⟨a1, c1, rfl, hc1⟩ := JK.shape (k := .u8) (M := 256) (E := 5) j1
  have J1 := hd j1
  have B1 := hd b1
  have hs1 := b1.size
  clear j1 b1 HCN
  go_wp2_with fail
  refine Calls.mono (HCN2.out w1) ?_
  rintro e w2 ⟨u2, rfl, j2, b2⟩
  obtain ⟨a2, c2, rfl, hc2⟩ := JK.shape (k := .u8) (M := 256) (E := 5) j2
  have J2 := hd j2
  have I1 := hd (J1.out.isB.below b2)
  have I2 := hd j2.isB
  have B2 := hd (B1.out.trans (b2.mono hs1))
  have hs2 := b2.size
  clear j2 b2 HCN2 J1 B1
  have tok1 : True := trivial
  go_wp2_with (first
    | (at_builtin; have _t := tok1; refine wpList_append_jk Try.underlying22 info_u8 _ rfl _ _ rfl w2.heap.size (.slice none 0 0) (.slice (some ⟨w2.heap.size, 0, none⟩) 2 2) [] [1, 2] rfl rfl (jk_nil _ _) (lit_isK_at .u8 256 w2 #[.int .u8 1, .int .u8 2] 5 [1, 2] 2 w2.heap.size rfl rfl rfl (by simp) (by simp [maxLen])) 2 rfl [1, 2] rfl (by omega) (by omega) (by simp) ?_; intro a3 c3 w3 hj3 hg3 hk3 hc3; clear tok1; have tok2 : True := trivial; have b3 : Below w2.heap.size w2 w3 := ((Below.refl _ w2).alloc (Nat.le_refl _) _).grown hg3 (by simp) (fun k e => by cases e); have hs3 := b3.size; clear hk3)
    | (at_builtin; have _t := tok2; refine wpList_append_jk Try.underlying22 info_u8 _ rfl _ _ rfl w2.heap.size (.slice a3 2 c3) (.slice a1 A.length c1) [1, 2] A rfl rfl hj3 (I1.out.below b3) (2 + A.length) rfl ([1, 2] ++ A) rfl (by omega) (by omega) hs3 ?_; intro a4 c4 w4 hj4 hg4 hk4 hc4; clear tok2; have tok3 : True := trivial; have b4 := b3.grown hg4 hs3 (fun k e => hj3.blk_ge k e); have hs4 := b4.size; clear hk4)
    | (at_builtin; have _t := tok3; refine wpList_append_jk Try.underlying22 info_u8 _ rfl _ _ rfl w2.heap.size (.slice a4 (2 + A.length) c4) (.slice a2 B.length c2) ([1, 2] ++ A) B rfl rfl hj4 (I2.out.below b4) (2 + A.length + B.length) (by simp; omega) two (by rw [HT.out, List.append_assoc]) (by omega) (by omega) hs4 ?_; intro a5 c5 w5 hj5 hg5 hk5 hc5; clear tok3; have b5 := b4.grown hg5 hs4 (fun k e => hj4.blk_ge k e); have hs5 := b5.size; clear hk5))
  have hI5 := hj5.isK
  have HI5 := hd hI5
  have HB5 := hd (B2.out.trans (b5.mono (by omega)))
  clear hj3 hg3 hj4 hg4 hj5 hg5 b3 b4 hI5 J2
  have hs5' : w2.heap.size ≤ w5.heap.size := hs5
  refine Calls.mono (extents_is _ two w5 HI5.out (by have := HTL.out; omega)) ?_
  rintro e w6 ⟨v6, rfl, j6, b6⟩
  rw [HE.out] at j6
  obtain ⟨g6, c6, hv6, hc6, _⟩ := j6.nn (by simp)
  subst hv6
  have J6 := hd j6
  have HI6 := hd (HI5.out.below b6)
  have HB6 := hd (HB5.out.trans (b6.mono HB5.out.size))
  have hs6 := b6.size
  clear j6 b6 HI5 HB5
  go_wp2_with fail
  refine Calls.mono (snext_is _ two 0 w6 HI6.out) ?_
  rw [HF.out]
  rintro e w7 ⟨rfl, b7⟩
  have J7 := hd (J6.out.keepAll b7)
  have HI7 := hd (HI6.out.below b7)
  have HB7 := hd (HB6.out.trans (b7.mono HB6.out.size))
  have hs7 := b7.size
  clear b7 J6 HI6 HB6
  go_wp2_with fail
  refine Calls.mono (clean_is _ two w7 HI7.out (by have := HTL.out; omega)) ?_
  rintro e w8 ⟨v8, rfl, j8, b8⟩
  obtain ⟨a8, c8, hv8, _⟩ := JK.shape (k := .u8) (M := 256) (E := 5) j8
  rw [HC.out] at hv8
  subst hv8
  have j8' := J7.out.keepAll b8
  have HB8 := hd (HB7.out.trans (b8.mono HB7.out.size))
  have r0 : w8.cell? ⟨g6, 0, none⟩ = some (.bool true) := j8'.at 0 [.bool true, .int .i64 0, .int .i64 2] 0 _ rfl rfl
  have r1 : w8.cell? ⟨g6, 1, none⟩ = some (.int .i64 0) := j8'.at 0 [.bool true, .int .i64 0, .int .i64 2] 1 _ rfl rfl
  have r2 : w8.cell? ⟨g6, 2, none⟩ = some (.int .i64 2) := j8'.at 0 [.bool true, .int .i64 0, .int .i64 2] 2 _ rfl rfl
  have r3 : w8.cell? ⟨g6, 3, none⟩ = some (.bool false) := j8'.at 1 [.bool false, .int .i64 2, .int .i64 (A.length : Int)] 0 _ rfl rfl
  have r4 : w8.cell? ⟨g6, 4, none⟩ = some (.int .i64 2) := j8'.at 1 [.bool false, .int .i64 2, .int .i64 (A.length : Int)] 1 _ rfl rfl
  have r5 : w8.cell? ⟨g6, 5, none⟩ = some (.int .i64 (A.length : Int)) := j8'.at 1 [.bool false, .int .i64 2, .int .i64 (A.length : Int)] 2 _ rfl rfl
  have r6 : w8.cell? ⟨g6, 6, none⟩ = some (.bool false) := j8'.at 2 [.bool false, .int .i64 (2 + (A.length : Int)), .int .i64 (B.length : Int)] 0 _ rfl rfl
  have r7 : w8.cell? ⟨g6, 7, none⟩ = some (.int .i64 (2 + (A.length : Int))) := j8'.at 2 [.bool false, .int .i64 (2 + (A.length : Int)), .int .i64 (B.length : Int)] 1 _ rfl rfl
  have r8 : w8.cell? ⟨g6, 8, none⟩ = some (.int .i64 (B.length : Int)) := j8'.at 2 [.bool false, .int .i64 (2 + (A.length : Int)), .int .i64 (B.length : Int)] 2 _ rfl rfl
  clear j8 b8 J7 HI7 HB7 j8' HE HF HC HT I1 I2 B2
  go_wp2_with fail
  go_ret
  exact ⟨rfl, HB8.out⟩
end Vt
end Go.Proofs.Ytabfgoojhangnaa
namespace Go.Proofs.Ytabfgoojhangnaa
namespace Vt
/-- extents that lie end to end from at_ on to the end; pj: is the one ahead junk? -/
def Tiles (l : List Nat) : Nat → Bool → List Ex → Prop
  | at_, _, [] => at_ = l.length
  | at_, pj, x :: r => ∃ n : Nat, x.2.1 = (at_ : Int) ∧ x.2.2 = (n : Int) ∧ 1 ≤ n ∧ at_ + n ≤ l.length ∧ (x.1 = true → pj = false) ∧
      (∀ k, at_ ≤ k → k < at_ + n → ((dcd (l.drop k)).2.2 = 0 ↔ (x.1 = false ∧ k = at_))) ∧ (x.1 = false → (dcd (l.drop at_)).2.1 = n) ∧ Tiles l (at_ + n) x.1 r
theorem locs_empty {m : List Nat} : ∀ e, locs e m = [] → ∀ k, k < m.length → (dcd (m.drop k)).2.2 ≠ 0 := by
  intro e h k hk hc
  have := locs_has (l := m) e k hk hc
  rw [h] at this
  cases this
theorem locs_head {m : List Nat} (hb : Byt m) : ∀ (e : Nat) (x : Lc) (r : List Lc), locs e m = x :: r →
    e ≤ x.1 ∧ (∀ k, k < x.1 - e → (dcd (m.drop k)).2.2 ≠ 0) ∧ dcd (m.drop (x.1 - e)) = (x.2.2, x.2.1, 0) ∧ x.1 - e + x.2.1 ≤ m.length ∧ r = locs (x.1 + x.2.1) (m.drop (x.1 - e + x.2.1)) := by
  induction m with
  | nil => intro e x r h; rw [locs] at h; cases h
  | cons y q ih =>
    intro e x r h
    by_cases hd : (dcd (y :: q)).2.2 = 0
    · rw [locs_ok hb e hd] at h
      injection h with h1 h2
      subst h1
      obtain ⟨_, _, _, k4, _⟩ := en_dcd hb hd
      simp only [Nat.sub_self, List.drop_zero, Nat.zero_add]
      refine ⟨Nat.le_refl _, fun k hk => by omega, Prod.ext rfl (Prod.ext rfl hd), k4, h2.symm⟩
    · rw [locs_err hd] at h
      obtain ⟨h1, h2, h3, h4, h5⟩ := ih (fun z hz => hb z (List.mem_cons_of_mem _ hz)) (e + 1) x r h
      refine ⟨by omega, fun k hk => ?_, ?_, ?_, ?_⟩
      · cases k with
        | zero => exact hd
        | succ k => rw [List.drop_succ_cons]; exact h2 k (by omega)
      · rw [show x.1 - e = (x.1 - (e + 1)) + 1 by omega, List.drop_succ_cons]; exact h3
      · rw [List.length_cons]; omega
      · rw [show x.1 - e + x.2.1 = (x.1 - (e + 1) + x.2.1) + 1 by omega, List.drop_succ_cons]; exact h5
theorem tiles_go {l : List Nat} (hb : Byt l) : ∀ (n e : Nat) (pj : Bool), l.length - e ≤ n → e ≤ l.length → (pj = true → e = l.length ∨ (dcd (l.drop e)).2.2 = 0) → Tiles l e pj (exR e (locs e (l.drop e)) l.length) := by
  intro n
  induction n with
  | zero =>
    intro e pj h1 h2 h3
    have he : e = l.length := by omega
    subst he
    rw [List.drop_length, locs_nil, exR, jk1, if_pos rfl]
    exact rfl
  | succ n ih =>
    intro e pj h1 h2 h3
    cases hx : locs e (l.drop e) with
    | nil =>
      have hem := locs_empty e hx
      rw [exR, jk1]
      by_cases he : e = l.length
      · rw [if_pos he]; exact he
      · rw [if_neg he]
        refine ⟨l.length - e, rfl, by show (l.length : Int) - (e : Int) = _; omega, by omega, by omega, fun _ => ?_, fun k hk1 hk2 => ?_, fun h => (by cases h), by show _ = _; omega⟩
        · cases pj with
          | false => rfl
          | true =>
            rcases h3 rfl with h | h
            · exact absurd h he
            · have := hem 0 (by rw [List.length_drop]; omega)
              rw [List.drop_zero] at this
              exact absurd h this
        · constructor
          · intro h
            have := hem (k - e) (by rw [List.length_drop]; omega)
            rw [List.drop_drop, show e + (k - e) = k by omega] at this
            exact absurd h this
          · rintro ⟨h, _⟩; cases h
    | cons x r =>
      obtain ⟨a1, a2, a3, a4, a5⟩ := locs_head (byt_drop hb e) e x r hx
      rw [List.drop_drop, show e + (x.1 - e) = x.1 by omega] at a3
      rw [List.drop_drop, show e + (x.1 - e + x.2.1) = x.1 + x.2.1 by omega] at a5
      rw [List.length_drop] at a4
      have hok : (dcd (l.drop x.1)).2.2 = 0 := by rw [a3]
      obtain ⟨_, _, k3, k4, _⟩ := en_dcd (byt_drop hb x.1) hok
      have hp := en_pos (dcd (l.drop x.1)).1
      rw [a3] at k3 k4 hp
      simp only at k3 k4 hp
      have tail : ∀ pj', Tiles l x.1 pj' ((false, (x.1 : Int), (x.2.1 : Int)) :: exR (x.1 + x.2.1) r l.length) := by
        intro pj'
        refine ⟨x.2.1, rfl, rfl, by omega, by omega, fun h => (by cases h), fun k hk1 hk2 => ?_, fun _ => by rw [a3], ?_⟩
        · constructor
          · intro h
            refine ⟨rfl, ?_⟩
            refine Classical.byContradiction fun hne => ?_
            have h1 := (dcd_lead (byt_drop hb k) h).1
            rw [getD_drop0] at h1
            have h2 := dcd_in (byt_drop hb x.1) hok (j := k - x.1) (by omega) (by rw [a3]; simp only; omega)
            rw [List.getD_eq_getElem?_getD, List.getElem?_drop, show x.1 + (k - x.1) = k by omega, ← List.getD_eq_getElem?_getD] at h2
            exact h2 h1
          · rintro ⟨_, rfl⟩; exact hok
        · rw [a5]
          exact ih (x.1 + x.2.1) false (by omega) (by omega) (fun h => (by cases h))
      rw [exR, jk1]
      by_cases he : e = x.1
      · rw [if_pos he, List.nil_append, he]; exact tail pj
      · rw [if_neg he, List.singleton_append]
        refine ⟨x.1 - e, rfl, by show (x.1 : Int) - (e : Int) = _; omega, by omega, by omega, fun _ => ?_, fun k hk1 hk2 => ?_, fun h => (by cases h), ?_⟩
        · cases pj with
          | false => rfl
          | true =>
            rcases h3 rfl with h | h
            · omega
            · have := a2 0 (by omega)
              rw [List.drop_zero] at this
              exact absurd h this
        · constructor
          · intro h
            have := a2 (k - e) (by omega)
            rw [List.drop_drop, show e + (k - e) = k by omega] at this
            exact absurd h this
          · rintro ⟨h, _⟩; cases h
        · rw [show e + (x.1 - e) = x.1 by omega]; exact tail true
theorem tiles {l : List Nat} (hb : Byt l) : Tiles l 0 false (exts l) := by
  rw [exts_eq]
  have := tiles_go hb l.length 0 false (by omega) (Nat.zero_le _) (fun h => (by cases h))
  rwa [List.drop_zero] at this
end Vt
end Go.Proofs.Ytabfgoojhangnaa
namespace Go.Proofs.Ytabfgoojhangnaa
namespace Vt
/-- frames one behind the other -/
def ens (fs : List Fr) : List Nat := (fs.map en).flatten
def Fit (fs : List Fr) : Prop := ∀ f ∈ fs, f.Wf ∧ rf f = 0
theorem fit_cons {f : Fr} {q : List Fr} (h : Fit (f :: q)) : f.Wf ∧ rf f = 0 ∧ Fit q := ⟨(h f List.mem_cons_self).1, (h f List.mem_cons_self).2, fun x hx => h x (List.mem_cons_of_mem _ hx)⟩
theorem ens_cons (f : Fr) (q : List Fr) : ens (f :: q) = en f ++ ens q := rfl
theorem ens_byt {fs : List Fr} (h : Fit fs) : Byt (ens fs) := by
  induction fs with
  | nil => exact byt_nil
  | cons f q ih =>
    obtain ⟨_, h2, h3⟩ := fit_cons h
    rw [ens_cons]; exact byt_app (en_byt h2) (ih h3)
/-- where they stand -/
def plf : Nat → List Fr → List Lc
  | _, [] => []
  | p, f :: q => (p, (en f).length, f) :: plf (p + (en f).length) q
theorem locs_ens {fs : List Fr} (h : Fit fs) {r : List Nat} (hr : Byt r) : ∀ p, locs p (ens fs ++ r) = plf p fs ++ locs (p + (ens fs).length) r := by
  induction fs with
  | nil => intro p; rfl
  | cons f q ih =>
    intro p
    obtain ⟨h1, h2, h3⟩ := fit_cons h
    rw [ens_cons, List.append_assoc, locs_en h1 h2 (byt_app (en_byt h2) (byt_app (ens_byt h3) hr)), ih h3, plf, List.length_append, Nat.add_assoc]; rfl
/-- the extents of frames alone -/
def fex : Nat → List Fr → List Ex
  | _, [] => []
  | p, f :: q => (false, (p : Int), ((en f).length : Int)) :: fex (p + (en f).length) q
theorem exR_plf (fs : List Fr) (L : List Lc) (N : Nat) : ∀ p, exR p (plf p fs ++ L) N = fex p fs ++ exR (p + (ens fs).length) L N := by
  induction fs with
  | nil => intro p; rfl
  | cons f q ih =>
    intro p
    rw [plf, List.cons_append, exR, ih, jk1, if_pos rfl, List.nil_append, fex, ens_cons, List.length_append, Nat.add_assoc]; rfl
/-- what Clean leaves is frames one behind the other -/
theorem cln_ens {l : List Nat} (hb : Byt l) (L : List Lc) (h : ∀ x ∈ L, x ∈ locs 0 l) : ∃ fs, cln l L = ens fs ∧ Fit fs ∧ fs = L.map (fun x => x.2.2) := by
  induction L with
  | nil => exact ⟨[], rfl, (by intro f hf; cases hf), rfl⟩
  | cons x q ih =>
    obtain ⟨fs, e1, e2, e3⟩ := ih (fun y hy => h y (List.mem_cons_of_mem _ hy))
    obtain ⟨_, h2, h3, h4, h5, h6⟩ := locs_mem hb 0 x (h x List.mem_cons_self)
    rw [Nat.sub_zero] at h3
    obtain ⟨_, _, _, _, k5⟩ := en_dcd (byt_drop hb x.1) (by rw [h3])
    rw [h3] at k5
    refine ⟨x.2.2 :: fs, ?_, ?_, by rw [e3]; rfl⟩
    · rw [show cln l (x :: q) = (l.drop x.1).take x.2.1 ++ cln l q from rfl, e1, ens_cons]; rw [k5]
    · intro f hf
      rcases List.mem_cons.1 hf with rfl | hf
      · exact ⟨h6, h5⟩
      · exact e2 f hf
theorem cln_all {l : List Nat} (hb : Byt l) : ∃ fs, cln l (locs 0 l) = ens fs ∧ Fit fs ∧ fs = (locs 0 l).map (fun x => x.2.2) := cln_ens hb _ (fun _ h => h)
def exsh (q : Nat) (x : Ex) : Ex := (x.1, (q : Int) + x.2.1, x.2.2)
theorem jk1_shift (q a b : Nat) : jk1 (q + a) (q + b) = (jk1 a b).map (exsh q) := by
  unfold jk1
  by_cases h : a = b
  · rw [if_pos h, if_pos (by omega)]; rfl
  · rw [if_neg h, if_neg (by omega)]
    simp only [List.map_cons, List.map_nil, exsh]
    congr 3 <;> omega
theorem exR_shift (q N : Nat) (L : List Lc) : ∀ e, exR (q + e) (L.map fun x => (q + x.1, x.2)) (q + N) = (exR e L N).map (exsh q) := by
  induction L with
  | nil => intro e; exact jk1_shift q e N
  | cons x r ih =>
    intro e
    rw [List.map_cons, exR, exR, List.map_append, List.map_cons, ← ih, jk1_shift, Nat.add_assoc]
    rfl
theorem exts_ens {fs : List Fr} (h : Fit fs) : exts (ens fs) = fex 0 fs := by
  have h1 := locs_ens h (r := []) byt_nil 0
  rw [List.append_nil, locs_nil, List.append_nil] at h1
  have h2 := exR_plf fs [] (ens fs).length 0
  rw [List.append_nil, Nat.zero_add] at h2
  rw [exts_eq, h1, h2, exR, jk1, if_pos rfl, List.append_nil]
theorem exts_join {fs : List Fr} (h : Fit fs) {b : List Nat} (hb : Byt b) : exts (ens fs ++ b) = exts (ens fs) ++ (exts b).map (exsh (ens fs).length) := by
  rw [exts_ens h, exts_eq, locs_ens h hb 0, exR_plf, Nat.zero_add, List.length_append, exts_eq b]
  congr 1
  have h1 := locs_shift b (ens fs).length 0
  have h2 := exR_shift (ens fs).length b.length (locs 0 b) 0
  rw [Nat.add_zero] at h1 h2
  rw [h1, h2]
theorem cln_len {l : List Nat} (hb : Byt l) : (cln l (locs 0 l)).length ≤ l.length := by
  have key : ∀ L : List Lc, (∀ x ∈ L, x ∈ locs 0 l) → (cln l L).length = (L.map fun x => x.2.1).sum := by
    intro L
    induction L with
    | nil => intro _; rfl
    | cons x q ih =>
      intro h
      obtain ⟨_, h2, _⟩ := locs_mem hb 0 x (h x List.mem_cons_self)
      rw [show cln l (x :: q) = (l.drop x.1).take x.2.1 ++ cln l q from rfl, List.length_append, ih (fun y hy => h y (List.mem_cons_of_mem _ hy)), List.map_cons, List.sum_cons, List.length_take, List.length_drop]
      omega
  rw [key _ (fun _ h => h)]
  exact locs_sum hb _ (Nat.le_refl _) 0
theorem exts_len {l : List Nat} (hb : Byt l) : (exts l).length ≤ 2 * l.length + 1 := by
  unfold exts
  rw [List.length_append]
  have h1 := exF_len (locs 0 l)
  have h2 := jk1_len (exF (locs 0 l)).2 l.length
  have h3 := locs_len hb _ (Nat.le_refl _) 0
  omega
end Vt
end Go.Proofs.Ytabfgoojhangnaa
namespace Go.Proofs.Ytabfgoojhangnaa
namespace Vt
theorem dcd_split {m : List Nat} {f : Fr} {n : Nat} (hb : Byt m) (h : dcd m = (f, n, 0)) : f.Wf ∧ rf f = 0 ∧ n = (en f).length ∧ n ≤ m.length ∧ m = en f ++ m.drop n := by
  obtain ⟨e1, e2, e3, e4, e5⟩ := en_dcd hb (by rw [h])
  rw [h] at e1 e2 e3 e4 e5
  refine ⟨e2, e1, e3, e4, ?_⟩
  rw [← e5, List.take_append_drop]
/-- what reads alike as far as a frame goes has that frame -/
theorem dcd_alike {m m' : List Nat} {f : Fr} {n : Nat} (hb : Byt m) (h : dcd m = (f, n, 0)) (he : m'.take n = m.take n) : dcd m' = (f, n, 0) := by
  obtain ⟨e1, e2, e3, e4, e5⟩ := dcd_split hb h
  have e6 : m.take n = en f := by rw [e5, e3, List.take_left' rfl]
  have e7 : m' = en f ++ m'.drop n := by rw [← e6, ← he, List.take_append_drop]
  rw [e7, dcd_en e1 e2, e3]
theorem locs_from {l : List Nat} (hb : Byt l) : ∀ (at_ i : Nat), (locs at_ l).filter (fun x => decide (at_ + i ≤ x.1)) = locs (at_ + i) (l.drop i) := by
  induction l with
  | nil => intro at_ i; simp [locs]
  | cons y r ih =>
    intro at_ i
    have hbr : Byt r := fun z hz => hb z (List.mem_cons_of_mem _ hz)
    cases i with
    | zero =>
      rw [Nat.add_zero, List.drop_zero, List.filter_eq_self]
      intro x hx
      have := (locs_mem hb at_ x hx).1
      simpa using this
    | succ i =>
      have h := ih hbr (at_ + 1) i
      rw [List.drop_succ_cons, show at_ + (i + 1) = at_ + 1 + i by omega, ← h]
      rw [locs]
      split
      · rw [List.filter_cons_of_neg (by simp; omega)]
      · rfl
theorem locs_upto {l : List Nat} (hb : Byt l) : ∀ (at_ t : Nat), (locs at_ l).filter (fun x => decide (x.1 + x.2.1 ≤ at_ + t)) = locs at_ (l.take t) := by
  induction l with
  | nil => intro at_ t; simp [locs]
  | cons y r ih =>
    intro at_ t
    have hbr : Byt r := fun z hz => hb z (List.mem_cons_of_mem _ hz)
    cases t with
    | zero =>
      rw [List.take_zero, locs_nil, List.filter_eq_nil_iff]
      intro x hx
      have h1 := locs_mem hb at_ x hx
      simp; omega
    | succ t =>
      have h := ih hbr (at_ + 1) t
      rw [List.take_succ_cons, locs, locs]
      have hbt : Byt (y :: r.take t) := fun z hz => by
        rcases List.mem_cons.1 hz with rfl | hz
        · exact hb _ List.mem_cons_self
        · exact hbr z (List.mem_of_mem_take hz)
      have htk : (y :: r.take t) = (y :: r).take (t + 1) := by rw [List.take_succ_cons]
      by_cases hd : (dcd (y :: r)).2.2 = 0
      · obtain ⟨f, n, e, hdd⟩ : ∃ f n e, dcd (y :: r) = (f, n, e) := ⟨_, _, _, rfl⟩
        rw [hdd] at hd
        simp only at hd
        subst hd
        obtain ⟨_, _, k3, k4, _⟩ := dcd_split hb hdd
        rw [hdd, if_pos rfl]
        by_cases hn : n ≤ t + 1
        · have h2 : dcd (y :: r.take t) = (f, n, 0) := dcd_alike hb hdd (by rw [htk, List.take_take, Nat.min_eq_left hn])
          rw [h2, if_pos rfl, List.filter_cons_of_pos (by simp; omega), show at_ + (t + 1) = at_ + 1 + t by omega, h]
        · have h2 : (dcd (y :: r.take t)).2.2 ≠ 0 := fun h2 => by
            obtain ⟨f', n', e', hdd'⟩ : ∃ f' n' e', dcd (y :: r.take t) = (f', n', e') := ⟨_, _, _, rfl⟩
            rw [hdd'] at h2
            simp only at h2
            subst h2
            obtain ⟨_, _, _, q4, _⟩ := dcd_split hbt hdd'
            have h3 := dcd_alike hbt hdd' (m' := y :: r) (by rw [htk, List.take_take, Nat.min_eq_left (by rw [htk, List.length_take] at q4; omega)])
            rw [hdd] at h3
            injection h3 with h3 h4
            injection h4 with h4
            rw [htk, List.length_take] at q4
            omega
          rw [if_neg h2, List.filter_cons_of_neg (by simp; omega), show at_ + (t + 1) = at_ + 1 + t by omega, h]
      · have h2 : (dcd (y :: r.take t)).2.2 ≠ 0 := fun h2 => by
          obtain ⟨f', n', e', hdd'⟩ : ∃ f' n' e', dcd (y :: r.take t) = (f', n', e') := ⟨_, _, _, rfl⟩
          rw [hdd'] at h2
          simp only at h2
          subst h2
          obtain ⟨_, _, _, q4, _⟩ := dcd_split hbt hdd'
          have h3 := dcd_alike hbt hdd' (m' := y :: r) (by rw [htk, List.take_take, Nat.min_eq_left (by rw [htk, List.length_take] at q4; omega)])
          rw [h3] at hd
          exact hd rfl
        rw [if_neg hd, if_neg h2, show at_ + (t + 1) = at_ + 1 + t by omega, h]
/-- the places of the frames -/
noncomputable def sps (l : List Nat) : List (Nat × Nat) := (locs 0 l).map fun x => (x.1, x.2.1)
/-- the frames that lie whole in a part, seen from there -/
def inPart (i j : Nat) (s : Nat × Nat) : Bool := decide (i ≤ s.1) && decide (s.1 + s.2 ≤ j)
theorem sps_part {l : List Nat} (hb : Byt l) {i j : Nat} (hij : i ≤ j) : sps ((l.drop i).take (j - i)) = ((sps l).filter (inPart i j)).map fun s => (s.1 - i, s.2) := by
  have h1 := locs_from hb 0 i
  have h2 := locs_upto (byt_drop hb i) i (j - i)
  have h3 := locs_shift ((l.drop i).take (j - i)) i 0
  rw [Nat.zero_add] at h1
  rw [← h1, List.filter_filter, show i + (j - i) = j by omega] at h2
  rw [Nat.add_zero] at h3
  rw [h3] at h2
  unfold sps
  rw [List.filter_map, List.map_map]
  have h4 : (locs 0 l).filter (inPart i j ∘ fun x => (x.1, x.2.1)) = (locs 0 l).filter (fun a => decide (a.1 + a.2.1 ≤ j) && decide (0 + i ≤ a.1)) := by
    congr 1
    funext x
    simp only [inPart, Function.comp, Nat.zero_add]
    rw [Bool.and_comm]
  rw [h4]
  simp only [Nat.zero_add] at h2 ⊢
  rw [h2, List.map_map]
  refine List.map_congr_left fun x _ => ?_
  simp
/-- where a byte is changed, a frame that does not hold it stays -/
theorem sps_hurt {l : List Nat} (hb : Byt l) {i c : Nat} {s : Nat × Nat} (hs : s ∈ sps l) (hn : ¬ (s.1 ≤ i ∧ i < s.1 + s.2)) : s ∈ sps (l.set i c) := by
  unfold sps at *
  obtain ⟨x, hx, rfl⟩ := List.mem_map.1 hs
  obtain ⟨_, h2, h3, h4, _⟩ := locs_mem hb 0 x hx
  rw [Nat.sub_zero] at h3
  rw [Nat.zero_add] at h2
  simp only at hn
  have he : ((l.set i c).drop x.1).take x.2.1 = (l.drop x.1).take x.2.1 := by
    refine List.ext_getElem? fun k => ?_
    rw [List.getElem?_take, List.getElem?_take]
    split
    · rw [List.getElem?_drop, List.getElem?_drop, List.getElem?_set_ne (by omega)]
    · rfl
  have h5 := dcd_alike (byt_drop hb x.1) h3 he
  have h6 := locs_has (l := l.set i c) 0 x.1 (by rw [List.length_set]; omega) (by rw [h5])
  rw [h5, Nat.zero_add] at h6
  exact List.mem_map.2 ⟨_, h6, rfl⟩
end Vt
end Go.Proofs.Ytabfgoojhangnaa
namespace Go.Proofs.Ytabfgoojhangnaa
open Go Go.RowKit
theorem region_det2 {F : Fence} {n : Nat} {P : Program} {id : Nat} {ops : Array Oper} {Q : Exit → Act → World → Prop} {a0 : Act} {w0 : World} (val : Nat → Value) (Wd : Array Bool → World → Prop)
    (hm : P.follows .mixedOrders = true) (hg : (ops.all fun o => o.guard.isNone) = true) (hdf : dstsFine ops a0.tmps.size = true) (hah : aftersAhead ops = true) (hW0 : Wd (Array.replicate ops.size false) w0.drew)
    (step : ∀ i o, ops[i]? = some o → ∀ (L : Array Bool) (a : Act) (w : World), L.size = ops.size → L.getD i false = false → Closed ops L → Wd L w →
      (∀ k, (∀ j, j < ops.size → dstOf ops j ≠ some k) → a.tmps.getD k undef = a0.tmps.getD k undef) →
      (∀ e ∈ o.after, Region.binds .any e = true → ∀ d, dstOf ops e.on = some d → a.tmps.getD d undef = val e.on) →
      (∀ e ∈ o.after, Region.binds .any e = true → L.getD e.on false = true) →
      (∀ j d, j < ops.size → L.getD j false = false → dstOf ops j = some d → a.tmps.getD d undef = a0.tmps.getD d undef) →
      o.wpIn F n P a w (fun a' w' => a' = a.put o.dst (val i) ∧ Wd (L.setIfInBounds i true) w') Q)
    (done : ∀ (L : Array Bool) a w, (∀ i, i < ops.size → L.getD i false = true) → Wd L w → a.defers = a0.defers → a.tmps.size = a0.tmps.size →
      (∀ k, (∀ j, j < ops.size → dstOf ops j ≠ some k) → a.tmps.getD k undef = a0.tmps.getD k undef) →
      (∀ i d, i < ops.size → dstOf ops i = some d → a.tmps.getD d undef = val i) → Q .normal a w) :
    (Code.region id ops true).wpIn F n P Q a0 w0 := by
  refine wpIn_region_any hm ?_
  refine wpAnyIn_inv (fun L a w => L.size = ops.size ∧ Closed ops L ∧ Wd L w ∧ a.defers = a0.defers ∧ a.tmps.size = a0.tmps.size ∧
      (∀ k, (∀ j, j < ops.size → dstOf ops j ≠ some k) → a.tmps.getD k undef = a0.tmps.getD k undef) ∧
      (∀ i d, i < ops.size → L.getD i false = true → dstOf ops i = some d → a.tmps.getD d undef = val i) ∧
      (∀ j d, j < ops.size → L.getD j false = false → dstOf ops j = some d → a.tmps.getD d undef = a0.tmps.getD d undef)) (fun L a w h => h.1) ?_ ?_ _ _ _ _ ?_ ?_
  · rintro L a w i ⟨h1, hcl, h2, h3, h4, h5, h6, h7⟩ hi
    obtain ⟨o, ho, hlt, hL, haf⟩ := ready_spec hi
    have hLf : L.getD i false = false := by
      rw [Array.getD_eq_getD_getElem?, Array.getElem?_eq_getElem (by omega)] at hL ⊢
      simpa using hL
    have hon : ∀ e ∈ o.after, Region.binds .any e = true → e.on < ops.size := fun e he hb => by
      have := haf e he hb
      rcases Nat.lt_or_ge e.on ops.size with h' | h'
      · exact h'
      · rw [Array.getD_eq_getD_getElem?, Array.getElem?_eq_none (by omega)] at this; simp at this
    have hst := step i o ho L a w h1 hLf hcl h2 h5 (fun e he hb d hd => h6 e.on d (hon e he hb) (haf e he hb) hd) haf h7
    have hgo : o.guard = none := by
      rw [Array.all_eq_true] at hg
      have := hg i hlt
      have ho' : ops[i] = o := by rw [Array.getElem?_eq_getElem hlt] at ho; injection ho
      rw [ho'] at this
      simpa using this
    unfold wpOpIn
    rw [ho]
    simp only [wanted_none hgo, if_true]
    refine Oper.wpIn_mono ?_ hst
    rintro a' w' ⟨rfl, hW'⟩
    refine ⟨by rw [Array.size_setIfInBounds]; exact h1, ?_, hW', ?_, ?_, ?_, ?_, ?_⟩
    · intro j p hp hj e he hb
      rw [set_getD _ _ _ (by omega)] at hj ⊢
      by_cases hji : j = i
      · subst hji
        rw [ho] at hp
        injection hp with hp
        subst hp
        rw [haf e he hb]; simp
      · rw [if_neg hji] at hj
        rw [hcl j p hp hj e he hb]; simp
    · cases o.dst <;> exact h3
    · cases hod : o.dst with
      | none => exact h4
      | some d => simp only [Act.put, Array.size_setIfInBounds]; exact h4
    · intro k hk
      cases hod : o.dst with
      | none => exact h5 k hk
      | some d =>
        have hdi : dstOf ops i = some d := by simp [dstOf, ho, hod]
        rw [getD_put _ _ _ _ (by have := (fine_spec hdf hlt hdi).1; omega), if_neg (fun e => hk i hlt (by rw [e]; exact hdi))]
        exact h5 k hk
    · intro j d hj hLj hdj
      rw [set_getD _ _ _ (by omega)] at hLj
      cases hod : o.dst with
      | none =>
        by_cases hji : j = i
        · subst hji
          have : dstOf ops j = none := by simp [dstOf, ho, hod]
          rw [this] at hdj
          cases hdj
        · rw [if_neg hji] at hLj
          exact h6 j d hj hLj hdj
      | some d' =>
        have hdi : dstOf ops i = some d' := by simp [dstOf, ho, hod]
        have hf := fine_spec hdf hlt hdi
        rw [getD_put _ _ _ _ (by omega)]
        by_cases hji : j = i
        · subst hji
          rw [hdi] at hdj
          injection hdj with hdj
          rw [if_pos hdj.symm]
        · rw [if_neg hji] at hLj
          rw [if_neg (fun e => hf.2 j hj hji (by rw [← e]; exact hdj))]
          exact h6 j d hj hLj hdj
    · intro j d hj hLj hdj
      rw [set_getD _ _ _ (by omega)] at hLj
      have hji : j ≠ i := by
        rintro rfl
        rw [if_pos rfl] at hLj
        cases hLj
      rw [if_neg hji] at hLj
      cases hod : o.dst with
      | none => exact h7 j d hj hLj hdj
      | some d' =>
        have hdi : dstOf ops i = some d' := by simp [dstOf, ho, hod]
        have hf := fine_spec hdf hlt hdi
        rw [getD_put _ _ _ _ (by omega), if_neg (fun e => hf.2 j hj hji (by rw [← e]; exact hdj))]
        exact h7 j d hj hLj hdj
  · rintro L a w ⟨h1, hcl, h2, h3, h4, h5, h6, h7⟩ hr
    have hall := all_listed hah h1 hr
    exact done L a w hall h2 h3 h4 h5 fun i d hi hd => h6 i d hi (hall i hi) hd
  · refine ⟨by simp, ?_, hW0, rfl, rfl, fun _ _ => rfl, fun i d hi h => ?_, fun _ _ _ _ _ => rfl⟩
    · intro j p hp hj
      rw [Array.getD_eq_getD_getElem?, Array.getElem?_replicate] at hj
      split at hj <;> simp at hj
    · rw [Array.getD_eq_getD_getElem?, Array.getElem?_replicate] at h
      simp [hi] at h
  · unfold left
    exact Nat.le_trans (List.countP_le_length) (by simp)
/-- the world of a region with two operations p, q that turn it, q behind p -/
def Wd3 (p q : Nat) (A B C : World) (L : Array Bool) (w : World) : Prop := (L.getD p false = false → L.getD q false = false ∧ w = A) ∧ (L.getD p false = true → L.getD q false = false → w = B) ∧ (L.getD q false = true → w = C)
theorem Wd3.keep {p q : Nat} {A B C : World} {L : Array Bool} {w : World} (h : Wd3 p q A B C L w) {i : Nat} (hi : i < L.size) (hp : p ≠ i) (hq : q ≠ i) : Wd3 p q A B C (L.setIfInBounds i true) w := by
  unfold Wd3 at *
  rw [set_getD _ _ _ hi, set_getD _ _ _ hi, if_neg hp, if_neg hq]
  exact h
theorem Wd3.first {p q : Nat} {A B C : World} {L : Array Bool} {w : World} (h : Wd3 p q A B C L w) (hi : p < L.size) (hq : q ≠ p) (h1 : L.getD p false = false) : Wd3 p q A B C (L.setIfInBounds p true) B := by
  have h2 := (h.1 h1).1
  unfold Wd3
  rw [set_getD _ _ _ hi, set_getD _ _ _ hi, if_pos rfl, if_neg hq, h2]
  exact ⟨fun h => (by cases h), fun _ _ => rfl, fun h => (by cases h)⟩
theorem Wd3.second {p q : Nat} {A B C : World} {L : Array Bool} (hi : q < L.size) (hq : p ≠ q) (h1 : L.getD p false = true) : Wd3 p q A B C (L.setIfInBounds q true) C := by
  unfold Wd3
  rw [set_getD _ _ _ hi, set_getD _ _ _ hi, if_neg hq, if_pos rfl, h1]
  exact ⟨fun h => (by cases h), fun _ h => (by cases h), fun _ => rfl⟩
end Go.Proofs.Ytabfgoojhangnaa
namespace Go.Proofs.Ytabfgoojhangnaa
open Go.RowKit
namespace Vt
/-- the bytes with the eight marked places behind them -/
def mk8 (l : List Nat) : List Nat := l ++ List.replicate 8 238
theorem mk8_len (l : List Nat) : (mk8 l).length = l.length + 8 := by simp [mk8]
theorem mk8_byt {l : List Nat} (h : Byt l) : Byt (mk8 l) := byt_app h (by intro x hx; have := List.eq_of_mem_replicate hx; omega)
theorem mk8_lo {l : List Nat} {j : Nat} (h : j < l.length) : (mk8 l).getD j 0 = l.getD j 0 := getD_app_left h
theorem mk8_hi {l : List Nat} {j : Nat} (h : l.length ≤ j) (h2 : j < l.length + 8) : (mk8 l).getD j 0 = 238 := by
  unfold mk8
  rw [List.getD_eq_getElem?_getD, List.getElem?_append_right h, List.getElem?_replicate, if_pos (by omega)]; rfl
theorem fill_step {F : List Nat} {j : Nat} (h : j < F.length) : (F.take j ++ List.replicate (F.length - j) 0).set j (F.getD j 0) = F.take (j + 1) ++ List.replicate (F.length - (j + 1)) 0 := by
  have e : F.length - j = (F.length - (j + 1)) + 1 := by omega
  rw [e, List.replicate_succ, List.set_append_right _ _ (by rw [List.length_take]; omega), List.length_take, show j - min j F.length = 0 by omega, List.set_cons_zero, take_succ_getD h, List.append_assoc]; rfl
set_option maxRecDepth 100000 in
set_option maxHeartbeats 400000 in
theorem lent_is (v : Value) (l : List Nat) (w : World) (hI : IsB w v l) (hm : l.length ≤ 140737488351232) :
    Calls Try.prog 4 #[v] w fun e w' => e = .returned (.slice (some ⟨w.heap.size, 0, none⟩) l.length (l.length + 8)) ∧ JB w' w.heap.size (.slice (some ⟨w.heap.size, 0, none⟩) (l.length + 8) (l.length + 8)) (mk8 l) ∧ Below w.heap.size w w' := by
  obtain ⟨i0, hi, hz0, hz1, hz2⟩ := info_parts info_u8
  have HI := hd hI
  obtain ⟨a, c, rfl⟩ := hI.shape
  clear hI
  go_enter Try.func4, Try.ntmps4
  go_wp2_with (at_make; refine wpList_make_full _ rfl _ _ 22 rfl w.heap.size 5 i0 (.int .u8 0) 1 Try.underlying22 hi hz0 hz1 .i64 .i64 ((l.length : Int) + 8) ((l.length : Int) + 8) (l.length + 8) rfl rfl rfl rfl (by rw [hz2]; omega) (by unfold maxLen; omega) (Nat.le_refl _) ?_; intro w1 hown hgrow)
  have HB1 : Hid (Below w.heap.size w w1) := (Below.refl _ _).grown hgrow (Nat.le_refl _) (fun k hk => by cases hk)
  have HO1 : Hid (JB w1 w.heap.size (.slice (some ⟨w.heap.size, 0, none⟩) (l.length + 8) (l.length + 8)) ((mk8 l).take 0 ++ List.replicate (l.length + 8 - 0) 0)) := by
    rw [List.take_zero, List.nil_append, Nat.sub_zero]
    refine ⟨by intro x hx; have := List.eq_of_mem_replicate hx; omega, ?_⟩
    rw [made8] at hown; rw [List.length_replicate]; exact hown
  clear hown hgrow
  go_loopw [4] (fun i wr => ∃ j : Nat, j ≤ l.length + 8 ∧ i = .int .i64 (j : Int) ∧ JB wr w.heap.size (.slice (some ⟨w.heap.size, 0, none⟩) (l.length + 8) (l.length + 8)) ((mk8 l).take j ++ List.replicate (l.length + 8 - j) 0) ∧ Below w.heap.size w wr) (fun i _ => l.length + 8 - (intOf i).toNat)
  case atStart => exact ⟨0, by omega, rfl, HO1.out, HB1.out⟩
  case round =>
    clear HO1 HB1
    obtain ⟨j, hj, rfl, hO, hB⟩ := hrel
    have HO := hd hO
    have HB := hd hB
    clear hO hB
    by_cases hlt : j < l.length + 8
    · have hll : l.length + 8 = ((mk8 l).take j ++ List.replicate (l.length + 8 - j) 0).length := by rw [List.length_append, List.length_replicate, List.length_take, mk8_len]; omega
      have hcell := HO.out.buf.cell (j := j) (by omega)
      have hfro := HO.out.buf.2.2.2.2.2 j (by omega)
      have hfs := fill_step (F := mk8 l) (j := j) (by rw [mk8_len]; exact hlt)
      rw [mk8_len] at hfs
      have HS := hd (HO.out.set (j := j) (y := 238) hll (by omega))
      by_cases hin : j < l.length
      · rw [mk8_lo hin] at hfs
        obtain ⟨hbl, _, ⟨rfl, _⟩ | ⟨bb, oo, cc, e, hlc, hcm, hbb, hrow⟩⟩ := HI.out
        · simp at hin
        · injection e with e1 e2 e3
          subst e1 e3
          have hx := getD_lt hbl j
          have hc2 : (wr.setCell ⟨w.heap.size, j, none⟩ (.int .u8 238)).cell? ⟨bb, oo + j, none⟩ = some (.int .u8 ((l.getD j 0 : Nat) : Int)) := by
            rw [World.cell?_setCell_other _ _ _ _ (by intro he; injection he with he; omega), HB.out.cell hbb]; exact hrow j hin
          have HS2 := hd (HS.out.set (j := j) (y := l.getD j 0) (by rw [List.length_set]; exact hll) hx)
          rw [List.set_set, hfs] at HS2
          have hc3 : (wr.setCell ⟨w.heap.size, j, none⟩ (.int .u8 238)).cell? ⟨w.heap.size, j, none⟩ = some (.int .u8 238) := World.cell?_setCell_same _ _ _ hcell
          have hf3 : (wr.setCell ⟨w.heap.size, j, none⟩ (.int .u8 238)).frozen? ⟨w.heap.size, j, none⟩ = false := by rw [World.frozen?_setCell]; exact hfro
          have HLL := hd hll
          clear hll hfs
          generalize l.getD j 0 = x at *
          go_wp2_with fail
          go_roundw
          case rel => exact ⟨j + 1, by omega, by go_num, HS2.out, (HB.out.setCell (p := ⟨w.heap.size, j, none⟩) (Nat.le_refl _) _).setCell (p := ⟨w.heap.size, j, none⟩) (Nat.le_refl _) _⟩
          case measure => simp [intOf]; omega
      · rw [mk8_hi (by omega) hlt] at hfs
        rw [hfs] at HS
        clear hll hfs
        go_wp2_with fail
        go_roundw
        case rel => exact ⟨j + 1, by omega, by go_num, HS.out, HB.out.setCell (Nat.le_refl _) _⟩
        case measure => simp [intOf]; omega
    · obtain rfl : j = l.length + 8 := by omega
      rw [Nat.sub_self, List.replicate_zero, List.append_nil, List.take_of_length_le (by rw [mk8_len]; omega)] at HO
      go_wp2_with fail
      go_ret
      exact ⟨rfl, HO.out, HB.out⟩
/-- what was lent, as a slice that reads as l -/
theorem lent_isB {w : World} {g cap : Nat} {l : List Nat} (h : Buf w g cap (mk8 l)) : IsB w (.slice (some ⟨g, 0, none⟩) l.length cap) l := by
  have h1 := (h.isB rfl).take l.length (by rw [mk8_len]; omega)
  have e : (mk8 l).take l.length = l := List.take_left' rfl
  rwa [e] at h1
end Vt
end Go.Proofs.Ytabfgoojhangnaa
namespace Go.Proofs.Ytabfgoojhangnaa
open Go.RowKit Go.Shelf
namespace Vt
attribute [local go_sem ↓] append_hide
def spv (s : Nat × Nat) : List Value := [.int .i64 (s.1 : Int), .int .i64 (s.2 : Int)]
/-- the extents that are no junk -/
def nj (E : List Ex) : List (List Value) := (E.filter (fun x => !x.1)).map fun x => [.int .i64 x.2.1, .int .i64 x.2.2]
theorem nj_app (A B : List Ex) : nj (A ++ B) = nj A ++ nj B := by unfold nj; rw [List.filter_append, List.map_append]
theorem nj_jk (a b : Nat) : nj (jk1 a b) = [] := by unfold nj jk1; split <;> rfl
theorem nj_exR (L : List Lc) (N : Nat) : ∀ e, nj (exR e L N) = L.map fun x => spv (x.1, x.2.1) := by
  induction L with
  | nil => intro e; exact nj_jk e N
  | cons x r ih =>
    intro e
    rw [exR, nj_app, nj_jk, List.nil_append, show (false, (x.1 : Int), (x.2.1 : Int)) :: exR (x.1 + x.2.1) r N = [(false, (x.1 : Int), (x.2.1 : Int))] ++ exR (x.1 + x.2.1) r N from rfl, nj_app, ih]; rfl
theorem nj_exts (l : List Nat) : nj (exts l) = (sps l).map spv := by
  rw [exts_eq, nj_exR]; unfold sps; rw [List.map_map]; rfl
theorem nj_len (E : List Ex) : (nj E).length ≤ E.length := by unfold nj; rw [List.length_map]; exact List.length_filter_le _ _
theorem JR.grownJ {E E' : TypeId} {sz sz' : Nat} {w w' : World} {b1 b2 : Nat} {v u : Value} {l m : List (List Value)} (h : JR E sz w b1 v l) (hr : JR E' sz' w b2 u m) (hne : E ≠ E') (hg : w.grownBy w' u.ownBlock) : JR E sz w' b1 v l := by
  refine h.grownO hg fun g hgb e => ?_
  obtain ⟨_, _, ⟨rfl, _⟩ | ⟨g1, cap1, cur1, rfl, _, hh1, _⟩⟩ := h
  · cases hgb
  · obtain ⟨_, _, ⟨rfl, _⟩ | ⟨g2, cap2, cur2, rfl, _, hh2, _⟩⟩ := hr
    · cases e
    · cases hgb
      injection e with e
      have e' : g1 = g2 := e
      subst e'
      rw [hh1] at hh2
      injection hh2 with hh2
      injection hh2 with _ hh2
      exact hne hh2
end Vt
end Go.Proofs.Ytabfgoojhangnaa
namespace Go.Proofs.Ytabfgoojhangnaa
open Go.ChangeShapes Go.WideShapes Go.ChangeAt Go.RowKit Go.Shelf
namespace Sj
open Vt
set_option maxRecDepth 100000 in
set_option maxHeartbeats 2000000 in
/-- the law's sameExtents, of lists that are the same -/
theorem sameEx_is (v u : Value) (L : List Ex) (w : World) (b1 b2 : Nat) (h1 : JE w b1 v (L.map exv)) (h2 : JE w b2 u (L.map exv)) :
    Calls Try.prog 6 #[v, u] w fun e w' => e = .returned (.bool true) ∧ Below w.heap.size w w' := by
  obtain ⟨a1, c1, rfl, hc1⟩ := h1.shape
  obtain ⟨a2, c2, rfl, hc2⟩ := h2.shape
  have hLl := h1.len_le
  unfold maxLen at hLl
  rw [List.length_map] at hc1 hc2 hLl ⊢
  rw [List.length_map] at h1 h2
  have H1 := hd h1
  have H2 := hd h2
  clear h1 h2
  have hmx : Try.prog.follows .mixedOrders = true := by kernel_rfl
  go_enter Try.func6, Try.ntmps6
  go_wp2_with fail
  go_loopw [5] (fun i wr => ∃ k n : Nat, k ≤ L.length ∧ i = .int .i64 (k : Int) ∧ wr = w.drewN n) (fun i _ => L.length - (intOf i).toNat)
  case atStart => exact ⟨0, 0, by omega, rfl, rfl⟩
  case round =>
    obtain ⟨k, n, hk, rfl, rfl⟩ := hrel
    by_cases hlt : k < L.length
    · obtain ⟨⟨j, p, q⟩, hx⟩ : ∃ x, L[k]? = some x := ⟨L[k], List.getElem?_eq_getElem hlt⟩
      have hxm : (L.map exv)[k]? = some [.bool j, .int .i64 p, .int .i64 q] := by rw [List.getElem?_map, hx]; rfl
      have hne : L.map exv ≠ [] := by intro e; rw [e] at hxm; simp at hxm
      obtain ⟨g1, c1', hv1, hg1, hm1⟩ := H1.out.nn hne
      obtain ⟨g2, c2', hv2, hg2, hm2⟩ := H2.out.nn hne
      injection hv1 with e1 e2 e3
      subst e1 e3
      injection hv2 with e1' e2' e3'
      subst e1' e3'
      have r0 : (w.drewN n).cell? ⟨g1, k * 3, none⟩ = some (.bool j) := H1.out.at k _ 0 _ hxm rfl
      have r1 : (w.drewN n).cell? ⟨g1, k * 3 + 1, none⟩ = some (.int .i64 p) := H1.out.at k _ 1 _ hxm rfl
      have r2 : (w.drewN n).cell? ⟨g1, k * 3 + 2, none⟩ = some (.int .i64 q) := H1.out.at k _ 2 _ hxm rfl
      have s0 : (w.drewN n).cell? ⟨g2, k * 3, none⟩ = some (.bool j) := H2.out.at k _ 0 _ hxm rfl
      have s1 : (w.drewN n).cell? ⟨g2, k * 3 + 1, none⟩ = some (.int .i64 p) := H2.out.at k _ 1 _ hxm rfl
      have s2 : (w.drewN n).cell? ⟨g2, k * 3 + 2, none⟩ = some (.int .i64 q) := H2.out.at k _ 2 _ hxm rfl
      clear hxm hne hx e2 e2'
      obtain ⟨wq, hwq⟩ : ∃ wq, wq = w.drewN n := ⟨_, rfl⟩
      rw [← hwq] at r0 r1 r2 s0 s1 s2 ⊢
      have HWQ := hd hwq
      clear hwq
      go_wp2_with fail
      go_quiet (fail)
      go_wp2_with fail
      go_roundw
      case rel =>
        obtain ⟨q2, h2⟩ := drewN2 w n nq
        exact ⟨k + 1, q2, by omega, by go_num, by rw [HWQ.out]; exact h2⟩
      case measure => simp [intOf]; omega
    · obtain rfl : k = L.length := by omega
      go_wp2_with fail
      go_ret
      exact ⟨rfl, ⟨rfl, rfl, rfl, Nat.le_refl _, fun _ _ => rfl⟩⟩
/-- a row of bytes lies as it lay where something was put behind a row of structs -/
theorem jk_grownJ {k : IntKind} {M : Nat} {E E' : TypeId} {sz : Nat} {w w' : World} {b1 b2 : Nat} {v u : Value} {l : List Nat} {m : List (List Value)} (h : JK k M E w b1 v l) (hr : JR E' sz w b2 u m) (hne : E ≠ E') (hg : w.grownBy w' u.ownBlock) : JK k M E w' b1 v l := by
  refine h.grownO hg fun g hgb e => ?_
  obtain ⟨_, _, ⟨rfl, _⟩ | ⟨g1, cap1, cur1, rfl, _, hh1, _⟩⟩ := h
  · cases hgb
  · obtain ⟨_, _, ⟨rfl, _⟩ | ⟨g2, cap2, cur2, rfl, _, hh2, _⟩⟩ := hr
    · cases e
    · cases hgb
      injection e with e
      have e' : g1 = g2 := e
      subst e'
      rw [hh1] at hh2
      injection hh2 with hh2
      injection hh2 with _ hh2
      exact hne hh2
theorem tiles_bound {l : List Nat} : ∀ (E : List Ex) (at_ : Nat) (pj : Bool), Tiles l at_ pj E → ∀ x ∈ E, 0 ≤ x.2.1 ∧ x.2.1 ≤ (l.length : Int) := by
  intro E
  induction E with
  | nil => intro at_ pj _ x hx; cases hx
  | cons y r ih =>
    intro at_ pj h x hx
    obtain ⟨n, h1, h2, h3, h4, _, _, _, h8⟩ := h
    rcases List.mem_cons.1 hx with rfl | hx
    · rw [h1]; omega
    · exact ih _ _ h8 x hx
end Sj
end Go.Proofs.Ytabfgoojhangnaa
namespace Go.Proofs.Ytabfgoojhangnaa
open Go.RowKit
namespace Vt
set_option maxRecDepth 100000 in
set_option maxHeartbeats 400000 in
theorem ssame_row (ba oa ca bb ob cb : Nat) (la lb : List Nat) (w : World) (hl : la.length = lb.length) (hA : Row w ba oa la) (hB : Row w bb ob lb) (hm : la.length ≤ maxLen) :
    Calls Try.prog 11 #[.slice (some ⟨ba, oa, none⟩) la.length ca, .slice (some ⟨bb, ob, none⟩) la.length cb] w fun e w' => e = .returned (.bool (decide (la = lb))) ∧ ∃ n, w' = w.drewN n := by
  unfold maxLen at hm
  have HA := hd hA
  have HB := hd hB
  have HL := hd hl
  clear hA hB hl
  go_enter Try.func11, Try.ntmps11
  go_wp2
  go_loopw [4, 5] (fun o i wr => ∃ k n : Nat, k ≤ la.length ∧ o = .bool false ∧ i = .int .i64 (k : Int) ∧ wr = w.drewN n ∧ ∀ j, j < k → la.getD j 0 = lb.getD j 0) (fun _ i _ => la.length - (intOf i).toNat)
  case atStart => exact ⟨0, 0, by omega, rfl, rfl, rfl, by intro j hj; omega⟩
  case round =>
    obtain ⟨k, n, hk, rfl, rfl, rfl, he⟩ := hrel
    have HE := hd he
    clear he
    by_cases hlt : k < la.length
    · have ha := HA.out k hlt
      have hb := HB.out k (by rw [← HL.out]; exact hlt)
      by_cases hq : la.getD k 0 = lb.getD k 0
      · have HE2 : Hid (∀ j, j < k + 1 → la.getD j 0 = lb.getD j 0) := by
          intro j hj
          rcases Nat.lt_or_ge j k with h | h
          · exact HE.out j h
          · rw [show j = k by omega]; exact hq
        rw [← hq] at hb
        generalize la.getD k 0 = p at ha hb
        clear hq
        go_wp2
        go_quiet (fail)
        go_wp2
        go_roundw
        case rel => exact ⟨k + 1, _, by omega, rfl, by go_num, rfl, HE2.out⟩
        case measure => simp [intOf]; omega
      · have HNE : Hid (decide (la = lb) = false) := by
          show decide (la = lb) = false
          rw [decide_eq_false_iff_not]; intro e; rw [e] at hq; exact hq rfl
        generalize la.getD k 0 = p at ha hq
        generalize lb.getD k 0 = q at hb hq
        have hpq : ((p : Int) != (q : Int)) = true := by simp; omega
        go_wp2
        go_quiet (fail)
        go_wp2
        go_ret
        exact ⟨by rw [HNE.out]; rfl, drewN2 _ _ _⟩
    · obtain rfl : k = la.length := by omega
      have hy : decide (la = lb) = true := by rw [decide_eq_true_iff]; exact ext_getD HL.out HE.out
      have HY := hd hy
      clear hy
      go_wp2
      go_ret
      exact ⟨by rw [HY.out]; rfl, n, rfl⟩
set_option maxRecDepth 100000 in
set_option maxHeartbeats 400000 in
theorem ssame_nil (a : Option Addr) (c : Nat) (b : Option Addr) (c2 : Nat) (w : World) :
    Calls Try.prog 11 #[.slice a 0 c, .slice b 0 c2] w fun e w' => e = .returned (.bool true) ∧ w' = w := by
  go_enter Try.func11, Try.ntmps11
  go_wp2
  go_loopw [4, 5] (fun o i wr => o = .bool false ∧ i = .int .i64 0 ∧ wr = w) (fun _ _ _ => 0)
  case atStart => exact ⟨rfl, rfl, rfl⟩
  case round =>
    obtain ⟨rfl, rfl, rfl⟩ := hrel
    go_wp2
    go_ret
    exact ⟨rfl, rfl⟩
set_option maxRecDepth 100000 in
set_option maxHeartbeats 400000 in
theorem ssame_unlike (a : Option Addr) (c : Nat) (b : Option Addr) (c2 n m : Nat) (w : World) (h : n ≠ m) :
    Calls Try.prog 11 #[.slice a n c, .slice b m c2] w fun e w' => e = .returned (.bool false) ∧ w' = w := by
  have hne : ((n : Int) != (m : Int)) = true := by simp; omega
  go_enter Try.func11, Try.ntmps11
  go_wp2
  go_ret
  exact ⟨rfl, rfl⟩
theorem ssame_is (va vb : Value) (la lb : List Nat) (w : World) (hA : IsB w va la) (hB : IsB w vb lb) :
    Calls Try.prog 11 #[va, vb] w fun e w' => e = .returned (.bool (decide (la = lb))) ∧ ∃ n, w' = w.drewN n := by
  by_cases hl : la.length = lb.length
  · by_cases h0 : la.length = 0
    · obtain rfl : la = [] := List.length_eq_zero_iff.1 h0
      obtain rfl : lb = [] := List.length_eq_zero_iff.1 (by omega)
      obtain ⟨a, ca, rfl⟩ := hA.shape
      obtain ⟨b, cb, rfl⟩ := hB.shape
      refine (ssame_nil a ca b cb w).mono ?_
      rintro e w' ⟨rfl, rfl⟩
      exact ⟨rfl, 0, rfl⟩
    · obtain ⟨_, hm, ⟨rfl, _⟩ | ⟨ba, oa, ca, rfl, _, _, _, hr⟩⟩ := hA
      · simp at h0
      · obtain ⟨_, _, ⟨rfl, _⟩ | ⟨bb, ob, cb, rfl, _, _, _, hs⟩⟩ := hB
        · simp at hl; simp [hl] at h0
        · rw [← hl]; exact ssame_row ba oa ca bb ob cb la lb w hl hr hs hm
  · obtain ⟨a, ca, rfl⟩ := hA.shape
    obtain ⟨b, cb, rfl⟩ := hB.shape
    refine (ssame_unlike a ca b cb _ _ w hl).mono ?_
    rintro e w' ⟨rfl, rfl⟩
    exact ⟨by rw [decide_eq_false]; intro e; exact hl (by rw [e]), 0, rfl⟩
end Vt
end Go.Proofs.Ytabfgoojhangnaa
