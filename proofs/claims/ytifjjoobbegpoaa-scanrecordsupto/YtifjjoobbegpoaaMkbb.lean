/-
  THE LAW'S works(): junk and two frames, as the chapter fixes it: it answers true.
-/
import Derived.Test.YtifjjoobbegpoaaMkax
import Derived.Test.YtifjjoobbegpoaaMkay
import Derived.Test.YtifjjoobbegpoaaMkaz
import Derived.Test.YtifjjoobbegpoaaMkba
namespace Go.Proofs.Ytifjjoobbegpoaa
open Go.RowKit Go.Shelf
namespace Vt
/-- a Put of the key tea -/
def tf (n : Nat) : Fr := ⟨1, ⟨n, 1, ⟨#[116, 101, 97]⟩, ⟨#[103, 114, 101, 101, 110]⟩⟩, zp, ze⟩
theorem tf_wf {n : Nat} (h : n < 18446744073709551616) : (tf n).Wf := ⟨h, (by decide : (0 : Nat) < 18446744073709551616), (by decide : (0 : Nat) < 4294967296)⟩
theorem tf_rf {n : Nat} (h : n ≠ 0) : rf (tf n) = 0 := by
  have e : rf (tf n) = rfR (tf n) := by unfold rf; rw [if_pos (show (tf n).kind = 1 ∨ (tf n).kind = 2 from Or.inl rfl)]
  rw [e]
  unfold rfR
  rw [if_neg (show ¬ ((tf n).r.kind ≠ (tf n).kind) from fun q => q rfl), if_neg (show ¬ ((tf n).r.lsn = 0) from h), if_neg (show ¬ ¬ mayKey (tf n).r.key from fun q => q ⟨(by decide : 1 ≤ 3), (by decide : 3 ≤ 64)⟩), if_neg (show ¬ ((if (tf n).r.kind = 2 then 0 else 2048) < (tf n).r.val.size) from by show ¬ ((if (1 : Int) = 2 then 0 else 2048) < 5); decide), if_neg (show ¬ (tf n ≠ ofR (tf n).r) from fun q => q rfl)]
set_option maxRecDepth 100000 in
theorem tea_is (n : Nat) (w : World) (h0 : n ≠ 0) (h : n < 18446744073709551616) :
    Calls Try.prog 34 #[.int .u64 (n : Int)] w fun e w' => ∃ u, e = .returned u ∧ JB w' w.heap.size u (en (tf n)) ∧ Below w.heap.size w w' := by
  have HC := hd (encF_all (tf_wf h) (tf_rf h0) w)
  have HF : Hid (fv (tf n) = #[.int .i64 1, .int .u64 (n : Int), .int .i64 1, .string ⟨#[116, 101, 97]⟩, .string ⟨#[103, 114, 101, 101, 110]⟩, .int .u64 0, .int .i64 0, .int .i64 0, .int .i64 0, .string ⟨#[]⟩, .int .i64 0, .int .i64 0, .int .i64 0, .int .u32 0]) := rfl
  rw [HF.out] at HC
  clear HF
  go_enter Try.func34, Try.ntmps34
  go_wp2_with fail
  refine Calls.mono HC.out ?_
  rintro e w1 ⟨u, rfl, hj, hb⟩
  obtain ⟨a, c, rfl, _⟩ := JK.shape (k := .u8) (M := 256) (E := 5) hj
  have HJ := hd hj
  clear hj
  go_wp2_with fail
  go_ret
  exact ⟨_, rfl, HJ.out, hb⟩
/-- junk and two frames -/
def two : List Nat := [1, 2] ++ (en (tf 1) ++ en (tf 2))
theorem en_byt {f : Fr} (h : rf f = 0) : Byt (en f) := by
  rw [en_eq]
  intro x hx
  rcases List.mem_cons.1 hx with rfl | hx
  · decide
  · exact byt_app (dg_byt _ _) (byt_app (wr_byt (bd_byt h)) (dg_byt _ _)) x hx
theorem two_byt : Byt two := by
  unfold two
  exact byt_app (by intro x hx; simp at hx; omega) (byt_app (en_byt (tf_rf (by decide))) (en_byt (tf_rf (by decide))))
theorem two_locs : locs 0 two = [(2, (en (tf 1)).length, tf 1), (2 + (en (tf 1)).length, (en (tf 2)).length, tf 2)] := by
  have b1 := en_byt (tf_rf (n := 1) (by decide))
  have b2 := en_byt (tf_rf (n := 2) (by decide))
  unfold two
  rw [locs_junk (by intro x hx; simp at hx; omega) two_byt, locs_en (tf_wf (by decide)) (tf_rf (by decide)) (byt_app b1 b2)]
  have := locs_en (tf_wf (n := 2) (by decide)) (tf_rf (by decide)) (r := []) (by rw [List.append_nil]; exact b2) (0 + [1, 2].length + (en (tf 1)).length)
  rw [List.append_nil, locs_nil] at this
  rw [this]
  rfl
theorem two_exts : exts two = [(true, 0, 2), (false, 2, ((en (tf 1)).length : Int)), (false, 2 + ((en (tf 1)).length : Int), ((en (tf 2)).length : Int))] := by
  have hp := en_pos (tf 1)
  have hl : two.length = 2 + ((en (tf 1)).length + (en (tf 2)).length) := by unfold two; simp; omega
  rw [exts_eq, two_locs]
  generalize (en (tf 1)).length = m at *
  generalize (en (tf 2)).length = k at *
  rw [hl]
  simp only [exR, jk1]
  rw [if_neg (by decide), if_pos trivial, if_pos (by omega)]
  simp
theorem two_fst : fst two 0 = (2, ((en (tf 1)).length : Int)) := by
  have h : frm two.length 0 = 0 := by unfold frm; simp
  unfold fst
  rw [h, List.drop_zero, two_locs]; rfl
theorem two_cln : (cln two (locs 0 two)).length = (en (tf 1)).length + (en (tf 2)).length := by
  have hl : two.length = 2 + ((en (tf 1)).length + (en (tf 2)).length) := by unfold two; simp; omega
  rw [two_locs]
  unfold cln
  simp only [List.map_cons, List.map_nil, List.flatten_cons, List.flatten_nil, List.length_append, List.length_take, List.length_drop, List.length_nil, hl]
  omega
theorem en_len_le {f : Fr} (hw : f.Wf) (h : rf f = 0) : (en f).length ≤ 4409 := by
  have h1 := (bd_len hw h).1
  have h2 := (wr_len (bd f)).2
  rw [en_len]; omega
theorem two_len : two.length ≤ 10000 := by
  have h1 := en_len_le (tf_wf (n := 1) (by decide)) (tf_rf (by decide))
  have h2 := en_len_le (tf_wf (n := 2) (by decide)) (tf_rf (by decide))
  unfold two
  simp only [List.length_append, List.length_cons, List.length_nil]
  omega
set_option maxRecDepth 100000 in
set_option maxHeartbeats 2000000 in
theorem works_is (w : World) : Calls Try.prog 12 #[] w fun e w' => e = .returned (.bool true) ∧ Below w.heap.size w w' := by
  have h1 := en_len_le (tf_wf (n := 1) (by decide)) (tf_rf (by decide))
  have h2 := en_len_le (tf_wf (n := 2) (by decide)) (tf_rf (by decide))
  have hp1 := en_pos (tf 1)
  have hp2 := en_pos (tf 2)
  have HE := hd two_exts
  have HF := hd two_fst
  have HC := hd two_cln
  have HT : Hid (two = [1, 2] ++ (en (tf 1) ++ en (tf 2))) := rfl
  have HTL := hd two_len
  have HCN : Hid (∀ x : World, Calls Try.prog 34 #[.int .u64 1] x fun e w' => ∃ u, e = .returned u ∧ JB w' x.heap.size u (en (tf 1)) ∧ Below x.heap.size x w') := fun x => tea_is 1 x (by decide) (by decide)
  have HCN2 : Hid (∀ x : World, Calls Try.prog 34 #[.int .u64 2] x fun e w' => ∃ u, e = .returned u ∧ JB w' x.heap.size u (en (tf 2)) ∧ Below x.heap.size x w') := fun x => tea_is 2 x (by decide) (by decide)
  obtain ⟨A, hA⟩ : ∃ A, A = en (tf 1) := ⟨_, rfl⟩
  obtain ⟨B, hB⟩ : ∃ B, B = en (tf 2) := ⟨_, rfl⟩
  rw [← hA, ← hB] at HE
  rw [← hA] at HF h1 hp1
  rw [← hB] at h2 hp2
  rw [← hA, ← hB] at HC HT
  simp only [← hA] at HCN
  simp only [← hB] at HCN2
  clear hA hB
  have hne : ((A.length : Int) == 0) = false := by rw [beq_eq_false_iff_ne]; omega
  have hne2 : ¬ A = [] := by rintro rfl; simp at hp1
  go_enter Try.func12, Try.ntmps12
  go_wp2_with fail
  refine Calls.mono (HCN.out w) ?_
  rintro e w1 ⟨u1, rfl, j1, b1⟩
  obtain ⟨a1, c1, rfl, hc1⟩ := JK.shape (k := .u8) (M := 256) (E := 5) j1
  have J1 := hd j1
  have B1 := hd b1
  have hs1 := b1.size
  clear j1 b1 HCN
  go_wp2_with fail
  refine Calls.mono (HCN2.out w1) ?_
  rintro e w2 ⟨u2, rfl, j2, b2⟩
  obtain ⟨a2, c2, rfl, hc2⟩ := JK.shape (k := .u8) (M := 256) (E := 5) j2
  have J2 := hd j2
  have I1 := hd (J1.out.isB.below b2)
  have I2 := hd j2.isB
  have B2 := hd (B1.out.trans (b2.mono hs1))
  have hs2 := b2.size
  clear j2 b2 HCN2 J1 B1
  have tok1 : True := trivial
  go_wp2_with (first
    | (at_builtin; have _t := tok1; refine wpList_append_jk Try.underlying22 info_u8 _ rfl _ _ rfl w2.heap.size (.slice none 0 0) (.slice (some ⟨w2.heap.size, 0, none⟩) 2 2) [] [1, 2] rfl rfl (jk_nil _ _) (lit_isK_at .u8 256 w2 #[.int .u8 1, .int .u8 2] 5 [1, 2] 2 w2.heap.size rfl rfl rfl (by simp) (by simp [maxLen])) 2 rfl [1, 2] rfl (by omega) (by omega) (by simp) ?_; intro a3 c3 w3 hj3 hg3 hk3 hc3; clear tok1; have tok2 : True := trivial; have b3 : Below w2.heap.size w2 w3 := ((Below.refl _ w2).alloc (Nat.le_refl _) _).grown hg3 (by simp) (fun k e => by cases e); have hs3 := b3.size; clear hk3)
    | (at_builtin; have _t := tok2; refine wpList_append_jk Try.underlying22 info_u8 _ rfl _ _ rfl w2.heap.size (.slice a3 2 c3) (.slice a1 A.length c1) [1, 2] A rfl rfl hj3 (I1.out.below b3) (2 + A.length) rfl ([1, 2] ++ A) rfl (by omega) (by omega) hs3 ?_; intro a4 c4 w4 hj4 hg4 hk4 hc4; clear tok2; have tok3 : True := trivial; have b4 := b3.grown hg4 hs3 (fun k e => hj3.blk_ge k e); have hs4 := b4.size; clear hk4)
    | (at_builtin; have _t := tok3; refine wpList_append_jk Try.underlying22 info_u8 _ rfl _ _ rfl w2.heap.size (.slice a4 (2 + A.length) c4) (.slice a2 B.length c2) ([1, 2] ++ A) B rfl rfl hj4 (I2.out.below b4) (2 + A.length + B.length) (by simp; omega) two (by rw [HT.out, List.append_assoc]) (by omega) (by omega) hs4 ?_; intro a5 c5 w5 hj5 hg5 hk5 hc5; clear tok3; have b5 := b4.grown hg5 hs4 (fun k e => hj4.blk_ge k e); have hs5 := b5.size; clear hk5))
  have hI5 := hj5.isK
  have HI5 := hd hI5
  have HB5 := hd (B2.out.trans (b5.mono (by omega)))
  clear hj3 hg3 hj4 hg4 hj5 hg5 b3 b4 hI5 J2
  have hs5' : w2.heap.size ≤ w5.heap.size := hs5
  refine Calls.mono (extents_is _ two w5 HI5.out (by have := HTL.out; omega)) ?_
  rintro e w6 ⟨v6, rfl, j6, b6⟩
  rw [HE.out] at j6
  obtain ⟨g6, c6, hv6, hc6, _⟩ := j6.nn (by simp)
  subst hv6
  have J6 := hd j6
  have HI6 := hd (HI5.out.below b6)
  have HB6 := hd (HB5.out.trans (b6.mono HB5.out.size))
  have hs6 := b6.size
  clear j6 b6 HI5 HB5
  go_wp2_with fail
  refine Calls.mono (snext_is _ two 0 w6 HI6.out) ?_
  rw [HF.out]
  rintro e w7 ⟨rfl, b7⟩
  have J7 := hd (J6.out.keepAll b7)
  have HI7 := hd (HI6.out.below b7)
  have HB7 := hd (HB6.out.trans (b7.mono HB6.out.size))
  have hs7 := b7.size
  clear b7 J6 HI6 HB6
  go_wp2_with fail
  refine Calls.mono (clean_is _ two w7 HI7.out (by have := HTL.out; omega)) ?_
  rintro e w8 ⟨v8, rfl, j8, b8⟩
  obtain ⟨a8, c8, hv8, _⟩ := JK.shape (k := .u8) (M := 256) (E := 5) j8
  rw [HC.out] at hv8
  subst hv8
  have j8' := J7.out.keepAll b8
  have HB8 := hd (HB7.out.trans (b8.mono HB7.out.size))
  have r0 : w8.cell? ⟨g6, 0, none⟩ = some (.bool true) := j8'.at 0 [.bool true, .int .i64 0, .int .i64 2] 0 _ rfl rfl
  have r1 : w8.cell? ⟨g6, 1, none⟩ = some (.int .i64 0) := j8'.at 0 [.bool true, .int .i64 0, .int .i64 2] 1 _ rfl rfl
  have r2 : w8.cell? ⟨g6, 2, none⟩ = some (.int .i64 2) := j8'.at 0 [.bool true, .int .i64 0, .int .i64 2] 2 _ rfl rfl
  have r3 : w8.cell? ⟨g6, 3, none⟩ = some (.bool false) := j8'.at 1 [.bool false, .int .i64 2, .int .i64 (A.length : Int)] 0 _ rfl rfl
  have r4 : w8.cell? ⟨g6, 4, none⟩ = some (.int .i64 2) := j8'.at 1 [.bool false, .int .i64 2, .int .i64 (A.length : Int)] 1 _ rfl rfl
  have r5 : w8.cell? ⟨g6, 5, none⟩ = some (.int .i64 (A.length : Int)) := j8'.at 1 [.bool false, .int .i64 2, .int .i64 (A.length : Int)] 2 _ rfl rfl
  have r6 : w8.cell? ⟨g6, 6, none⟩ = some (.bool false) := j8'.at 2 [.bool false, .int .i64 (2 + (A.length : Int)), .int .i64 (B.length : Int)] 0 _ rfl rfl
  have r7 : w8.cell? ⟨g6, 7, none⟩ = some (.int .i64 (2 + (A.length : Int))) := j8'.at 2 [.bool false, .int .i64 (2 + (A.length : Int)), .int .i64 (B.length : Int)] 1 _ rfl rfl
  have r8 : w8.cell? ⟨g6, 8, none⟩ = some (.int .i64 (B.length : Int)) := j8'.at 2 [.bool false, .int .i64 (2 + (A.length : Int)), .int .i64 (B.length : Int)] 2 _ rfl rfl
  clear j8 b8 J7 HI7 HB7 j8' HE HF HC HT I1 I2 B2
  go_wp2_with fail
  go_ret
  exact ⟨rfl, HB8.out⟩
end Vt
end Go.Proofs.Ytifjjoobbegpoaa
