/-
  THE REFERENCE OF LAYER 4: Decode of any bytes at any place says what the program's says.
  THE REFERENCE OF LAYER 5: All: every place is asked whether a frame begins there.
-/
import Derived.Test.YtifjjoobbegpoaaMkbv
import Derived.Test.YtifjjoobbegpoaaMkau
namespace Go.Proofs.Ytifjjoobbegpoaa
open Go.RowKit
namespace Vt
theorem dcd_rl {m : List Nat} {e : Nat} (h : rl m = (0, e)) (he : e ≠ 0) : dcd m = (zf, 0, e) := by
  unfold dcd
  rw [h]
  simp only
  rw [if_pos he]
theorem r4_decode (v : Value) (l : List Nat) (z : Int) (w : World) (hI : IsB w v l) (hm : l.length ≤ 9223372036854775000) :
    Calls Try.prog 46 #[v, .int .i64 z] w fun e w' => e = .returned (dval (decF l z)) ∧ Below w.heap.size w w' := by
  by_cases h : z < 0 ∨ (l.length : Int) ≤ z
  · have e : decF l z = (zf, 0, 40) := by unfold decF; rw [if_pos h]
    rw [e]
    exact r4dec_arg v l z w hI h
  · obtain ⟨a, rfl⟩ : ∃ a : Nat, z = (a : Int) := ⟨z.toNat, by omega⟩
    have ha : a < l.length := by omega
    have e : decF l (a : Int) = dcd (l.drop a) := by unfold decF; rw [if_neg h, Int.toNat_natCast]
    rw [e]
    obtain ⟨b, off, c, rfl⟩ : ∃ b off c, v = .slice (some ⟨b, off, none⟩) l.length c := by
      obtain ⟨_, _, ⟨q, _⟩ | ⟨b, off, c, e, _⟩⟩ := hI
      · rw [q] at ha; simp at ha
      · exact ⟨b, off, c, e⟩
    by_cases h7 : l.getD a 0 = 167
    · have h7' : (l.drop a).getD 0 0 = 167 := by rw [getD_drop0]; exact h7
      by_cases hg : ∀ x ∈ dig (l.drop a), x < 128
      · have hn2 := dig_nm hg
        by_cases h4 : (l.drop a).length < 4
        · rw [dcd_rl (rl_43 h7' hg (.inl h4)) (by decide)]
          exact r4dec_len b off c a l w hI ha hm h7 43 (lnR_43 hg h4) (by decide)
        · by_cases h9 : l.length < a + nm (dig (l.drop a)) + 9
          · rw [dcd_rl (rl_43 h7' hg (.inr (by rw [List.length_drop]; omega))) (by decide)]
            exact r4dec_short b off c a l w hI ha hm h7 _ (lnR_0 hg h4) hn2 h9
          · exact r4dec_main b off c a l w hI ha hm h7 _ (lnR_0 hg h4) hn2 (by omega) (rl_0 h7' hg (by omega) (by rw [List.length_drop]; omega))
      · rw [dcd_rl (rl_42 h7' hg) (by decide)]
        exact r4dec_len b off c a l w hI ha hm h7 42 (lnR_42 hg) (by decide)
    · rw [dcd_rl (rl_41 (by rw [getD_drop0]; exact h7)) (by decide)]
      exact r4dec_lead b off c a l w hI ha h7
end Vt
end Go.Proofs.Ytifjjoobbegpoaa
namespace Go.Proofs.Ytifjjoobbegpoaa
open Go.RowKit Go.Shelf
namespace Vt
attribute [local go_sem] Oper.semAt_some
abbrev JFo := JR 75 16
/-- the cells of a frame that was found -/
def fov (x : Lc) : List Value := [.int .i64 (x.1 : Int), .int .i64 (x.2.1 : Int), .int .i64 x.2.2.kind, .int .u64 (x.2.2.r.lsn : Int), .int .i64 x.2.2.r.kind, .string x.2.2.r.key, .string x.2.2.r.val, .int .u64 (x.2.2.p.lsn : Int), .int .i64 x.2.2.p.kind, .int .i64 x.2.2.p.at_, .int .i64 x.2.2.p.len, .string x.2.2.p.key, .int .i64 x.2.2.e.count, .int .i64 x.2.2.e.bytes, .int .i64 x.2.2.e.frames, .int .u32 (x.2.2.e.sum : Int)]
theorem info_fo : (Try.prog.info? 75).map (fun i => (i.zero, i.size, i.bytes)) = some (some (.agg #[.int .i64 0, .int .i64 0, .int .i64 0, .int .u64 0, .int .i64 0, .string ⟨#[]⟩, .string ⟨#[]⟩, .int .u64 0, .int .i64 0, .int .i64 0, .int .i64 0, .string ⟨#[]⟩, .int .i64 0, .int .i64 0, .int .i64 0, .int .u32 0]), 16, 152) := by kernel_rfl
theorem fov_one (x : Lc) : ∀ u ∈ fov x, u.oneCell' = true := by
  intro u hu
  simp only [fov, List.mem_cons, List.mem_nil_iff, or_false] at hu
  rcases hu with rfl | rfl | rfl | rfl | rfl | rfl | rfl | rfl | rfl | rfl | rfl | rfl | rfl | rfl | rfl | rfl <;> rfl
theorem locs_step {l : List Nat} {k : Nat} (hk : k < l.length) : ((dcd (l.drop k)).2.2 = 0 → locs k (l.drop k) = (k, (dcd (l.drop k)).2.1, (dcd (l.drop k)).1) :: locs (k + 1) (l.drop (k + 1))) ∧ ((dcd (l.drop k)).2.2 ≠ 0 → locs k (l.drop k) = locs (k + 1) (l.drop (k + 1))) := by
  have e : l.drop k = l[k] :: l.drop (k + 1) := List.drop_eq_getElem_cons hk
  constructor
  · intro h
    rw [e] at h ⊢
    rw [locs, if_pos h]
  · intro h
    rw [e] at h ⊢
    rw [locs, if_neg h]
theorem decF_at {l : List Nat} {k : Nat} (hk : k < l.length) : decF l (k : Int) = dcd (l.drop k) := by
  unfold decF
  rw [if_neg (by omega), Int.toNat_natCast]
set_option maxRecDepth 100000 in
set_option maxHeartbeats 2000000 in
theorem r5_all (v : Value) (l : List Nat) (w : World) (hI : IsB w v l) (hl : l.length ≤ 16777216) :
    Calls Try.prog 33 #[v] w fun e w' => ∃ v', e = .returned v' ∧ JFo w' w.heap.size v' ((locs 0 l).map fov) ∧ Below w.heap.size w w' := by
  obtain ⟨a, c, rfl⟩ := hI.shape
  have HI := hd hI
  have hby := hI.1
  have HLL := hd (fun k => locs_len (byt_drop hby k) _ (Nat.le_refl _) k)
  clear hI hby
  go_enter Try.func33, Try.ntmps33
  go_wp2_with fail
  go_loopw [3, 4] (fun o i wr => ∃ (k : Nat) (pre : List Lc), k ≤ l.length ∧ i = .int .i64 (k : Int) ∧ JFo wr w.heap.size o (pre.map fov) ∧ pre ++ locs k (l.drop k) = locs 0 l ∧ Below w.heap.size w wr) (fun _ i _ => l.length - (intOf i).toNat)
  case atStart => exact ⟨0, [], by omega, rfl, jr_nil _ _, by simp, Below.refl _ _⟩
  case round =>
    obtain ⟨k, pre, hk, rfl, hj, hpre, hb⟩ := hrel
    obtain ⟨av, cv, rfl, hcv⟩ := hj.shape
    have hpl : (pre.map fov).length = pre.length := List.length_map _
    have hpn : 9 * pre.length ≤ l.length := by
      have h1 := HLL.out 0
      rw [List.drop_zero, ← hpre, List.length_append] at h1
      omega
    rw [hpl] at hcv hj ⊢
    have HJ := hd hj
    have HPRE := hd hpre
    have HB := hd hb
    have hsz := hb.size
    clear hj hpre hb
    by_cases hlt : k < l.length
    · have HST := hd (locs_step hlt)
      have HDE := hd (fun w' (h : Below w.heap.size w w') => r4_decode _ l (k : Int) w' (HI.out.below h) (by omega))
      rw [decF_at hlt] at HDE
      obtain ⟨f, q, er, hdd⟩ : ∃ f q er, dcd (l.drop k) = (f, q, er) := ⟨_, _, _, rfl⟩
      rw [hdd] at HDE HST
      clear hdd
      obtain ⟨fk, ⟨rl, rk, rkey, rval⟩, ⟨pl, pk, pa, pn, pkey⟩, ⟨ec, eb, ef, es⟩⟩ := f
      simp only [dval, fv] at HDE
      go_wp2_with fail
      refine Calls.mono (HDE.out _ HB.out) ?_
      rintro e w1 ⟨rfl, hb1⟩
      have HJ1 := hd (HJ.out.keepAll hb1)
      have HB1 := hd (HB.out.trans (hb1.mono hsz))
      have hs1 := hb1.size
      clear hb1 HDE HJ HB
      by_cases her : er = 0
      · subst her
        have HS1 := hd (HST.out.1 rfl)
        have HONE : Hid (∀ u ∈ ([.int .i64 (k : Int), .int .i64 (q : Int), .int .i64 fk, .int .u64 (rl : Int), .int .i64 rk, .string rkey, .string rval, .int .u64 (pl : Int), .int .i64 pk, .int .i64 pa, .int .i64 pn, .string pkey, .int .i64 ec, .int .i64 eb, .int .i64 ef, .int .u32 (es : Int)] : List Value), u.oneCell' = true) := hd (fov_one (k, q, ⟨fk, ⟨rl, rk, rkey, rval⟩, ⟨pl, pk, pa, pn, pkey⟩, ⟨ec, eb, ef, es⟩⟩))
        clear HST
        go_wp2_with (at_builtin; refine wpList_append_jr Try.underlying72 info_fo rfl (by decide) _ rfl _ _ rfl w.heap.size (.slice av pre.length cv) (pre.map fov) (w1.heap.size + 1) 1 [.int .i64 (k : Int), .int .i64 (q : Int), .int .i64 fk, .int .u64 (rl : Int), .int .i64 rk, .string rkey, .string rval, .int .u64 (pl : Int), .int .i64 pk, .int .i64 pa, .int .i64 pn, .string pkey, .int .i64 ec, .int .i64 eb, .int .i64 ef, .int .u32 (es : Int)] rfl rfl ((HJ1.out.alloc _).alloc _) rfl HONE.out (fun j u hu => cell_lit (w1.alloc _) _ _ j u _ (by simp) hu) (pre.length + 1) (by rw [hpl]) (by omega) (by unfold maxLen; omega) (by simp; omega) ?_; intro g3 c3 w3 hj3 hg3 hw3)
        have hb3 := (((HB1.out.alloc (by omega) _).alloc (by simp; omega) _).grown hg3 (by simp; omega) (fun g e => HJ1.out.blk_ge g e))
        go_roundw
        case rel => exact ⟨k + 1, pre ++ [(k, q, ⟨fk, ⟨rl, rk, rkey, rval⟩, ⟨pl, pk, pa, pn, pkey⟩, ⟨ec, eb, ef, es⟩⟩)], by omega, by go_num, by rw [List.map_append]; exact hj3, by rw [List.append_assoc, ← HPRE.out, HS1.out]; rfl, hb3⟩
        case measure => simp [intOf]; omega
      · have e1 : ((er : Int) == 0) = false := by rw [beq_eq_false_iff_ne]; omega
        have HS1 := hd (HST.out.2 her)
        clear HST her
        go_wp2_with fail
        go_roundw
        case rel => exact ⟨k + 1, pre, by omega, by go_num, HJ1.out.alloc _, by rw [← HPRE.out, HS1.out], HB1.out.alloc (by omega) _⟩
        case measure => simp [intOf]; omega
    · obtain rfl : k = l.length := by omega
      have HL2 : Hid (pre = locs 0 l) := hd (by
        have := HPRE.out
        rwa [List.drop_length, locs_nil, List.append_nil] at this)
      go_wp2_with fail
      go_ret
      exact ⟨_, rfl, by rw [← HL2.out]; exact HJ.out, HB.out⟩
end Vt
end Go.Proofs.Ytifjjoobbegpoaa
