/-
  THE REFERENCE OF LAYER 4: Decode of any bytes at any place says what the program's says.
  THE REFERENCE OF LAYER 5: All: every place is asked whether a frame begins there.
  THE REFERENCE OF LAYER 5: Clean.
-/
import Derived.Test.YtabfgoojhangnaaXebx
import Derived.Test.YtabfgoojhangnaaXeba
import Derived.Test.YtabfgoojhangnaaXebf
import Derived.Test.YtabfgoojhangnaaXebb
namespace Go.Proofs.Ytabfgoojhangnaa
open Go.RowKit
namespace Vt
theorem dcd_rl {m : List Nat} {e : Nat} (h : rl m = (0, e)) (he : e ≠ 0) : dcd m = (zf, 0, e) := by
  unfold dcd
  rw [h]
  simp only
  rw [if_pos he]
theorem r4_decode (v : Value) (l : List Nat) (z : Int) (w : World) (hI : IsB w v l) (hm : l.length ≤ 9223372036854775000) :
    Calls Try.prog 27 #[v, .int .i64 z] w fun e w' => e = .returned (dval (decF l z)) ∧ Below w.heap.size w w' := by
  by_cases h : z < 0 ∨ (l.length : Int) ≤ z
  · have e : decF l z = (zf, 0, 40) := by unfold decF; rw [if_pos h]
    rw [e]
    exact r4dec_arg v l z w hI h
  · obtain ⟨a, rfl⟩ : ∃ a : Nat, z = (a : Int) := ⟨z.toNat, by omega⟩
    have ha : a < l.length := by omega
    have e : decF l (a : Int) = dcd (l.drop a) := by unfold decF; rw [if_neg h, Int.toNat_natCast]
    rw [e]
    obtain ⟨b, off, c, rfl⟩ : ∃ b off c, v = .slice (some ⟨b, off, none⟩) l.length c := by
      obtain ⟨_, _, ⟨q, _⟩ | ⟨b, off, c, e, _⟩⟩ := hI
      · rw [q] at ha; simp at ha
      · exact ⟨b, off, c, e⟩
    by_cases h7 : l.getD a 0 = 167
    · have h7' : (l.drop a).getD 0 0 = 167 := by rw [getD_drop0]; exact h7
      by_cases hg : ∀ x ∈ dig (l.drop a), x < 128
      · have hn2 := dig_nm hg
        by_cases h4 : (l.drop a).length < 4
        · rw [dcd_rl (rl_43 h7' hg (.inl h4)) (by decide)]
          exact r4dec_len b off c a l w hI ha hm h7 43 (lnR_43 hg h4) (by decide)
        · by_cases h9 : l.length < a + nm (dig (l.drop a)) + 9
          · rw [dcd_rl (rl_43 h7' hg (.inr (by rw [List.length_drop]; omega))) (by decide)]
            exact r4dec_short b off c a l w hI ha hm h7 _ (lnR_0 hg h4) hn2 h9
          · exact r4dec_main b off c a l w hI ha hm h7 _ (lnR_0 hg h4) hn2 (by omega) (rl_0 h7' hg (by omega) (by rw [List.length_drop]; omega))
      · rw [dcd_rl (rl_42 h7' hg) (by decide)]
        exact r4dec_len b off c a l w hI ha hm h7 42 (lnR_42 hg) (by decide)
    · rw [dcd_rl (rl_41 (by rw [getD_drop0]; exact h7)) (by decide)]
      exact r4dec_lead b off c a l w hI ha h7
end Vt
end Go.Proofs.Ytabfgoojhangnaa
namespace Go.Proofs.Ytabfgoojhangnaa
open Go.RowKit Go.Shelf
namespace Vt
attribute [local go_sem] Oper.semAt_some
abbrev JFo := JR 63 16
/-- the cells of a frame that was found -/
def fov (x : Lc) : List Value := [.int .i64 (x.1 : Int), .int .i64 (x.2.1 : Int), .int .i64 x.2.2.kind, .int .u64 (x.2.2.r.lsn : Int), .int .i64 x.2.2.r.kind, .string x.2.2.r.key, .string x.2.2.r.val, .int .u64 (x.2.2.p.lsn : Int), .int .i64 x.2.2.p.kind, .int .i64 x.2.2.p.at_, .int .i64 x.2.2.p.len, .string x.2.2.p.key, .int .i64 x.2.2.e.count, .int .i64 x.2.2.e.bytes, .int .i64 x.2.2.e.frames, .int .u32 (x.2.2.e.sum : Int)]
theorem info_fo : (Try.prog.info? 63).map (fun i => (i.zero, i.size, i.bytes)) = some (some (.agg #[.int .i64 0, .int .i64 0, .int .i64 0, .int .u64 0, .int .i64 0, .string ⟨#[]⟩, .string ⟨#[]⟩, .int .u64 0, .int .i64 0, .int .i64 0, .int .i64 0, .string ⟨#[]⟩, .int .i64 0, .int .i64 0, .int .i64 0, .int .u32 0]), 16, 152) := by kernel_rfl
theorem fov_one (x : Lc) : ∀ u ∈ fov x, u.oneCell' = true := by
  intro u hu
  simp only [fov, List.mem_cons, List.mem_nil_iff, or_false] at hu
  rcases hu with rfl | rfl | rfl | rfl | rfl | rfl | rfl | rfl | rfl | rfl | rfl | rfl | rfl | rfl | rfl | rfl <;> rfl
theorem locs_step {l : List Nat} {k : Nat} (hk : k < l.length) : ((dcd (l.drop k)).2.2 = 0 → locs k (l.drop k) = (k, (dcd (l.drop k)).2.1, (dcd (l.drop k)).1) :: locs (k + 1) (l.drop (k + 1))) ∧ ((dcd (l.drop k)).2.2 ≠ 0 → locs k (l.drop k) = locs (k + 1) (l.drop (k + 1))) := by
  have e : l.drop k = l[k] :: l.drop (k + 1) := List.drop_eq_getElem_cons hk
  constructor
  · intro h
    rw [e] at h ⊢
    rw [locs, if_pos h]
  · intro h
    rw [e] at h ⊢
    rw [locs, if_neg h]
theorem decF_at {l : List Nat} {k : Nat} (hk : k < l.length) : decF l (k : Int) = dcd (l.drop k) := by
  unfold decF
  rw [if_neg (by omega), Int.toNat_natCast]
set_option maxRecDepth 100000 in
set_option maxHeartbeats 2000000 in
theorem r5_all (v : Value) (l : List Nat) (w : World) (hI : IsB w v l) (hl : l.length ≤ 16777216) :
    Calls Try.prog 22 #[v] w fun e w' => ∃ v', e = .returned v' ∧ JFo w' w.heap.size v' ((locs 0 l).map fov) ∧ Below w.heap.size w w' := by
  obtain ⟨a, c, rfl⟩ := hI.shape
  have HI := hd hI
  have hby := hI.1
  have HLL := hd (fun k => locs_len (byt_drop hby k) _ (Nat.le_refl _) k)
  clear hI hby
  go_enter Try.func22, Try.ntmps22
  go_wp2_with fail
  go_loopw [3, 4] (fun o i wr => ∃ (k : Nat) (pre : List Lc), k ≤ l.length ∧ i = .int .i64 (k : Int) ∧ JFo wr w.heap.size o (pre.map fov) ∧ pre ++ locs k (l.drop k) = locs 0 l ∧ Below w.heap.size w wr) (fun _ i _ => l.length - (intOf i).toNat)
  case atStart => exact ⟨0, [], by omega, rfl, jr_nil _ _, by simp, Below.refl _ _⟩
  case round =>
    obtain ⟨k, pre, hk, rfl, hj, hpre, hb⟩ := hrel
    obtain ⟨av, cv, rfl, hcv⟩ := hj.shape
    have hpl : (pre.map fov).length = pre.length := List.length_map _
    have hpn : 9 * pre.length ≤ l.length := by
      have h1 := HLL.out 0
      rw [List.drop_zero, ← hpre, List.length_append] at h1
      omega
    rw [hpl] at hcv hj ⊢
    have HJ := hd hj
    have HPRE := hd hpre
    have HB := hd hb
    have hsz := hb.size
    clear hj hpre hb
    by_cases hlt : k < l.length
    · have HST := hd (locs_step hlt)
      have HDE := hd (fun w' (h : Below w.heap.size w w') => r4_decode _ l (k : Int) w' (HI.out.below h) (by omega))
      rw [decF_at hlt] at HDE
      obtain ⟨f, q, er, hdd⟩ : ∃ f q er, dcd (l.drop k) = (f, q, er) := ⟨_, _, _, rfl⟩
      rw [hdd] at HDE HST
      clear hdd
      obtain ⟨fk, ⟨rl, rk, rkey, rval⟩, ⟨pl, pk, pa, pn, pkey⟩, ⟨ec, eb, ef, es⟩⟩ := f
      simp only [dval, fv] at HDE
      go_wp2_with fail
      refine Calls.mono (HDE.out _ HB.out) ?_
      rintro e w1 ⟨rfl, hb1⟩
      have HJ1 := hd (HJ.out.keepAll hb1)
      have HB1 := hd (HB.out.trans (hb1.mono hsz))
      have hs1 := hb1.size
      clear hb1 HDE HJ HB
      by_cases her : er = 0
      · subst her
        have HS1 := hd (HST.out.1 rfl)
        have HONE : Hid (∀ u ∈ ([.int .i64 (k : Int), .int .i64 (q : Int), .int .i64 fk, .int .u64 (rl : Int), .int .i64 rk, .string rkey, .string rval, .int .u64 (pl : Int), .int .i64 pk, .int .i64 pa, .int .i64 pn, .string pkey, .int .i64 ec, .int .i64 eb, .int .i64 ef, .int .u32 (es : Int)] : List Value), u.oneCell' = true) := hd (fov_one (k, q, ⟨fk, ⟨rl, rk, rkey, rval⟩, ⟨pl, pk, pa, pn, pkey⟩, ⟨ec, eb, ef, es⟩⟩))
        clear HST
        go_wp2_with (at_builtin; refine wpList_append_jr Try.underlying60 info_fo rfl (by decide) _ rfl _ _ rfl w.heap.size (.slice av pre.length cv) (pre.map fov) (w1.heap.size + 1) 1 [.int .i64 (k : Int), .int .i64 (q : Int), .int .i64 fk, .int .u64 (rl : Int), .int .i64 rk, .string rkey, .string rval, .int .u64 (pl : Int), .int .i64 pk, .int .i64 pa, .int .i64 pn, .string pkey, .int .i64 ec, .int .i64 eb, .int .i64 ef, .int .u32 (es : Int)] rfl rfl ((HJ1.out.alloc _).alloc _) rfl HONE.out (fun j u hu => cell_lit (w1.alloc _) _ _ j u _ (by simp) hu) (pre.length + 1) (by rw [hpl]) (by omega) (by unfold maxLen; omega) (by simp; omega) ?_; intro g3 c3 w3 hj3 hg3 hw3)
        have hb3 := (((HB1.out.alloc (by omega) _).alloc (by simp; omega) _).grown hg3 (by simp; omega) (fun g e => HJ1.out.blk_ge g e))
        go_roundw
        case rel => exact ⟨k + 1, pre ++ [(k, q, ⟨fk, ⟨rl, rk, rkey, rval⟩, ⟨pl, pk, pa, pn, pkey⟩, ⟨ec, eb, ef, es⟩⟩)], by omega, by go_num, by rw [List.map_append]; exact hj3, by rw [List.append_assoc, ← HPRE.out, HS1.out]; rfl, hb3⟩
        case measure => simp [intOf]; omega
      · have e1 : ((er : Int) == 0) = false := by rw [beq_eq_false_iff_ne]; omega
        have HS1 := hd (HST.out.2 her)
        clear HST her
        go_wp2_with fail
        go_roundw
        case rel => exact ⟨k + 1, pre, by omega, by go_num, HJ1.out.alloc _, by rw [← HPRE.out, HS1.out], HB1.out.alloc (by omega) _⟩
        case measure => simp [intOf]; omega
    · obtain rfl : k = l.length := by omega
      have HL2 : Hid (pre = locs 0 l) := hd (by
        have := HPRE.out
        rwa [List.drop_length, locs_nil, List.append_nil] at this)
      go_wp2_with fail
      go_ret
      exact ⟨_, rfl, by rw [← HL2.out]; exact HJ.out, HB.out⟩
end Vt
end Go.Proofs.Ytabfgoojhangnaa
namespace Go.Proofs.Ytabfgoojhangnaa
open Go.RowKit Go.Shelf
namespace Vt
theorem cln_crude (l : List Nat) (pre : List Lc) : (cln l pre).length ≤ pre.length * l.length := by
  induction pre with
  | nil => simp [cln]
  | cons x r ih =>
    have h : cln l (x :: r) = (l.drop x.1).take x.2.1 ++ cln l r := by simp [cln]
    rw [h, List.length_append, List.length_cons, Nat.succ_mul]
    have : ((l.drop x.1).take x.2.1).length ≤ l.length := by rw [List.length_take, List.length_drop]; omega
    omega
theorem jbQ_lower {w : World} {b b' : Nat} {v : Value} {l : List Nat} (h : JB w b v l) (hb : b' ≤ b) : JB w b' v l := by
  obtain ⟨h1, h0, ⟨rfl, e⟩ | ⟨g', cap', cur, rfl, hbs, hh, hr⟩⟩ := h
  · exact ⟨h1, h0, .inl ⟨rfl, e⟩⟩
  · exact ⟨h1, h0, .inr ⟨g', cap', cur, rfl, by omega, hh, hr⟩⟩
theorem take_one {L : List Lc} {k : Nat} {x : Lc} (h : L[k]? = some x) : L.take (k + 1) = L.take k ++ [x] := by
  rw [List.take_add_one, h, Option.toList_some]
attribute [local go_sem] Oper.semAt_some
attribute [local go_sem ↓] slice_hidQ
attribute [local go_sem ↓] append_hide
set_option maxRecDepth 100000 in
set_option maxHeartbeats 2000000 in
theorem r5_clean (v : Value) (l : List Nat) (w : World) (hI : IsB w v l) (hl : l.length ≤ 10000000) :
    Calls Try.prog 12 #[v] w fun e w' => ∃ v', e = .returned v' ∧ JB w' w.heap.size v' (cln l (locs 0 l)) ∧ Below w.heap.size w w' := by
  obtain ⟨av0, c, rfl⟩ := hI.shape
  have HI := hd hI
  have HLM := hd (fun x hx => locs_mem hI.1 0 x hx)
  have hll := locs_len hI.1 _ (Nat.le_refl _) 0
  clear hI
  go_enter Try.func12, Try.ntmps12
  go_wp2_with fail
  refine Calls.mono (r5_all _ l w HI.out (by omega)) ?_
  rintro e w1 ⟨u, rfl, hj, hb⟩
  obtain ⟨au, cu, rfl, hcu⟩ := hj.shape
  rw [List.length_map] at hcu hj ⊢
  have HJ := hd hj
  have HB := hd hb
  have HI1 := hd (HI.out.below hb)
  have hs1 := hb.size
  obtain ⟨L, hL⟩ : ∃ L, L = locs 0 l := ⟨_, rfl⟩
  rw [← hL] at HJ HLM hcu hll ⊢
  have HLL := hd hL
  clear hj hb HI hL
  go_wp2_with fail
  go_loopw [3, 5] (fun o i wr => ∃ (k : Nat), k ≤ L.length ∧ i = .int .i64 (k : Int) ∧ JB wr w1.heap.size o (cln l (L.take k)) ∧ Below w1.heap.size w1 wr) (fun _ i _ => L.length - (intOf i).toNat)
  case atStart => exact ⟨0, by omega, rfl, jb_nil _ _, Below.refl _ _⟩
  case round =>
    obtain ⟨k, hk, rfl, hj, hb⟩ := hrel
    obtain ⟨av, cv, rfl, hcv⟩ := hj.shape
    have HJB := hd hj
    have HBr := hd hb
    have hsr := hb.size
    clear hj hb
    by_cases hlt : k < L.length
    · obtain ⟨⟨x1, x2, f⟩, hx⟩ : ∃ x, L[k]? = some x := ⟨L[k], List.getElem?_eq_getElem hlt⟩
      have hxm : (L.map fov)[k]? = some (fov (x1, x2, f)) := by rw [List.getElem?_map, hx]; rfl
      have hne : L.map fov ≠ [] := by intro e; rw [e] at hxm; simp at hxm
      have hJr := HJ.out.keepAll HBr.out
      obtain ⟨g, cu', hv1, hg1, hm1⟩ := hJr.nn hne
      injection hv1 with e1 e2 e3
      subst e1
      have r0 := hJr.at k _ 0 _ hxm rfl
      have r1 := hJr.at k _ 1 _ hxm rfl
      simp only [Nat.add_zero] at r0
      have hmem := HLM.out _ (List.mem_of_getElem? hx)
      have hxl : x1 + x2 ≤ l.length := by have := hmem.2.1; simpa using this
      obtain ⟨va, vc, hsl, hsI⟩ := sub_is (HI1.out.below HBr.out) x1 x2 hxl
      simp only [Int.natCast_add] at hsl
      have HSI := hd hsI
      have hpl : ((l.drop x1).take x2).length = x2 := by rw [List.length_take, List.length_drop]; omega
      have HCS : Hid (cln l (L.take k) ++ (l.drop x1).take x2 = cln l (L.take (k + 1))) := hd (by rw [take_one hx, cln_snoc])
      have hcr := cln_crude l (L.take k)
      have hcr2 : (cln l (L.take k)).length ≤ 20000000000000 := by
        refine Nat.le_trans hcr (Nat.le_trans (Nat.mul_le_mul ?_ hl) (show 1200000 * 10000000 ≤ 20000000000000 by decide))
        rw [List.length_take]; omega
      obtain ⟨CL, hCL⟩ : ∃ CL, CL = cln l (L.take k) := ⟨_, rfl⟩
      obtain ⟨PT, hPT⟩ : ∃ PT, PT = (l.drop x1).take x2 := ⟨_, rfl⟩
      rw [← hCL] at HCS hcr2 HJB hcv ⊢
      rw [← hPT] at HCS HSI hpl
      have HPL := hd hpl
      clear hxm hne hx e2 e3 hg1 hm1 hmem hsI hcr hCL hPT hJr hpl
      obtain ⟨a3, c3, w3, hr3, hj3, hg3⟩ := run_append_jb 22 wr.drew w1.heap.size (.slice av CL.length cv) (.slice va x2 vc) CL PT HJB.out HSI.out (by rw [HPL.out]; omega) hsr
      rw [HPL.out] at hr3 hj3
      have hap : (apH #[22, 22] 22 #[.slice av CL.length cv, .slice va x2 vc]).run Try.prog wr.drew = .ok (.slice a3 (CL.length + x2) c3) w3 := hr3
      have HJ3 := hd hj3
      have HG3 : Hid (Below w1.heap.size w1 w3) := hd (JB.grown (w := wr.drew) HJB.out HBr.out.drew (Nat.le_refl _) hsr hg3)
      obtain ⟨SS, hS0, hS1⟩ : ∃ SS : Nat → World, SS 0 = wr.drew ∧ SS 1 = w3 := ⟨fun s => match s with | 0 => _ | _ => _, rfl, rfl⟩
      have HS0 := hd hS0
      have HS1 := hd hS1
      have hmx : Try.prog.follows .mixedOrders = true := by kernel_rfl
      have i4 : IntKind.i64.wrap ((x1 : Int) + (x2 : Int)) = (x1 : Int) + (x2 : Int) := by rw [IntKind.wrap_i64]; omega
      have hltI : (k : Int) < (L.length : Int) := by omega
      clear hr3 hj3 hg3 hS0 hS1
      go_wp2_with fail
      refine region_chain (fun i => match i with
        | 0 => Value.slice av CL.length cv
        | 1 => Value.slice av0 l.length c
        | 2 => Value.slice (some { block := g, off := 0 }) L.length cu
        | 3 => Value.int IntKind.i64 (k : Int)
        | 4 => .pointer (some ⟨g, k * 16, none⟩)
        | 5 => .pointer (some ⟨g, k * 16, none⟩)
        | 6 => .int .i64 (x1 : Int)
        | 7 => Value.slice (some { block := g, off := 0 }) L.length cu
        | 8 => Value.int IntKind.i64 (k : Int)
        | 9 => .pointer (some ⟨g, k * 16, none⟩)
        | 10 => .pointer (some ⟨g, k * 16, none⟩)
        | 11 => .int .i64 (x1 : Int)
        | 12 => Value.slice (some { block := g, off := 0 }) L.length cu
        | 13 => Value.int IntKind.i64 (k : Int)
        | 14 => .pointer (some ⟨g, k * 16, none⟩)
        | 15 => .pointer (some ⟨g, k * 16 + 1, none⟩)
        | 16 => .int .i64 (x2 : Int)
        | 17 => .int .i64 ((x1 : Int) + (x2 : Int))
        | 18 => .slice va x2 vc
        | 19 => .slice a3 (CL.length + x2) c3
        | 20 => .slice a3 (CL.length + x2) c3
        | _ => undef) [19] SS hmx (by kernel_rfl) (by kernel_rfl) (by kernel_rfl) (by kernel_rfl) HS0.out ?_ ?_ (by decide)
      · intro i o ho s a hsr hlo hhi hout haf hun
        have ee0 := getq (show a.tmps.getD 0 undef = Value.slice av0 l.length c from hout 0 (notDst_spec (by kernel_rfl)))
        have ee4 := getq (show a.tmps.getD 4 undef = Value.slice (some { block := g, off := 0 }) L.length cu from hout 4 (notDst_spec (by kernel_rfl)))
        have ee5 := getq (show a.tmps.getD 5 undef = Value.int IntKind.i64 (k : Int) from hout 5 (notDst_spec (by kernel_rfl)))
        clear hout
        match i, ho, hlo, hhi, haf, hun with
        | 0, ho, hlo, hhi, haf, hun =>
          obtain rfl := Option.some.inj ho
          have g20 := getq (show a.tmps.getD 3 undef = Value.slice av CL.length cv from hun 20 3 (by decide) (.inr (by kernel_rfl)) rfl)
          obtain rfl : s = 0 := by have := hhi 0 (by decide) (.inr (by kernel_rfl)); simp at hsr; omega
          refine step_c (w' := SS 0) rfl fun K hK => ?_
          simp only [List.getElem_toArray, List.getElem_cons_zero] at hK ⊢
          clear haf hlo hhi hun ho hsr
          go_simp
          exact hK
        | 1, ho, hlo, hhi, haf, hun =>
          obtain rfl := Option.some.inj ho
          obtain rfl : s = 0 := by have := hhi 0 (by decide) (.inr (by kernel_rfl)); simp at hsr; omega
          refine step_c (w' := SS 0) rfl fun K hK => ?_
          simp only [List.getElem_toArray, List.getElem_cons_succ, List.getElem_cons_zero] at hK ⊢
          clear haf hlo hhi hun ho hsr
          go_simp
          exact hK
        | 2, ho, hlo, hhi, haf, hun =>
          obtain rfl := Option.some.inj ho
          obtain rfl : s = 0 := by have := hhi 0 (by decide) (.inr (by kernel_rfl)); simp at hsr; omega
          refine step_c (w' := SS 0) rfl fun K hK => ?_
          simp only [List.getElem_toArray, List.getElem_cons_succ, List.getElem_cons_zero] at hK ⊢
          clear haf hlo hhi hun ho hsr
          go_simp
          exact hK
        | 3, ho, hlo, hhi, haf, hun =>
          obtain rfl := Option.some.inj ho
          obtain rfl : s = 0 := by have := hhi 0 (by decide) (.inr (by kernel_rfl)); simp at hsr; omega
          refine step_c (w' := SS 0) rfl fun K hK => ?_
          simp only [List.getElem_toArray, List.getElem_cons_succ, List.getElem_cons_zero] at hK ⊢
          clear haf hlo hhi hun ho hsr
          go_simp
          exact hK
        | 4, ho, hlo, hhi, haf, hun =>
          obtain rfl := Option.some.inj ho
          have f2 := getq (show a.tmps.getD 16 undef = Value.slice (some { block := g, off := 0 }) L.length cu from haf ⟨2, .data⟩ (by simp) rfl 16 rfl)
          have f3 := getq (show a.tmps.getD 17 undef = Value.int IntKind.i64 (k : Int) from haf ⟨3, .data⟩ (by simp) rfl 17 rfl)
          obtain rfl : s = 0 := by have := hhi 0 (by decide) (.inr (by kernel_rfl)); simp at hsr; omega
          refine step_c (w' := SS 0) rfl fun K hK => ?_
          simp only [List.getElem_toArray, List.getElem_cons_succ, List.getElem_cons_zero] at hK ⊢
          clear haf hlo hhi hun ho hsr
          go_simp
          exact hK
        | 5, ho, hlo, hhi, haf, hun =>
          obtain rfl := Option.some.inj ho
          have f4 := getq (show a.tmps.getD 18 undef = .pointer (some ⟨g, k * 16, none⟩) from haf ⟨4, .data⟩ (by simp) rfl 18 rfl)
          obtain rfl : s = 0 := by have := hhi 0 (by decide) (.inr (by kernel_rfl)); simp at hsr; omega
          refine step_c (w' := SS 0) rfl fun K hK => ?_
          simp only [List.getElem_toArray, List.getElem_cons_succ, List.getElem_cons_zero] at hK ⊢
          clear haf hlo hhi hun ho hsr
          go_simp
          exact hK
        | 6, ho, hlo, hhi, haf, hun =>
          obtain rfl := Option.some.inj ho
          have f5 := getq (show a.tmps.getD 19 undef = .pointer (some ⟨g, k * 16, none⟩) from haf ⟨5, .data⟩ (by simp) rfl 19 rfl)
          obtain rfl : s = 0 := by have := hhi 0 (by decide) (.inr (by kernel_rfl)); simp at hsr; omega
          refine step_c (w' := SS 0) rfl fun K hK => ?_
          simp only [List.getElem_toArray, List.getElem_cons_succ, List.getElem_cons_zero] at hK ⊢
          clear haf hlo hhi hun ho hsr
          rw [HS0.out] at hK ⊢
          go_simp
          exact hK
        | 7, ho, hlo, hhi, haf, hun =>
          obtain rfl := Option.some.inj ho
          obtain rfl : s = 0 := by have := hhi 0 (by decide) (.inr (by kernel_rfl)); simp at hsr; omega
          refine step_c (w' := SS 0) rfl fun K hK => ?_
          simp only [List.getElem_toArray, List.getElem_cons_succ, List.getElem_cons_zero] at hK ⊢
          clear haf hlo hhi hun ho hsr
          go_simp
          exact hK
        | 8, ho, hlo, hhi, haf, hun =>
          obtain rfl := Option.some.inj ho
          obtain rfl : s = 0 := by have := hhi 0 (by decide) (.inr (by kernel_rfl)); simp at hsr; omega
          refine step_c (w' := SS 0) rfl fun K hK => ?_
          simp only [List.getElem_toArray, List.getElem_cons_succ, List.getElem_cons_zero] at hK ⊢
          clear haf hlo hhi hun ho hsr
          go_simp
          exact hK
        | 9, ho, hlo, hhi, haf, hun =>
          obtain rfl := Option.some.inj ho
          have f7 := getq (show a.tmps.getD 21 undef = Value.slice (some { block := g, off := 0 }) L.length cu from haf ⟨7, .data⟩ (by simp) rfl 21 rfl)
          have f8 := getq (show a.tmps.getD 22 undef = Value.int IntKind.i64 (k : Int) from haf ⟨8, .data⟩ (by simp) rfl 22 rfl)
          obtain rfl : s = 0 := by have := hhi 0 (by decide) (.inr (by kernel_rfl)); simp at hsr; omega
          refine step_c (w' := SS 0) rfl fun K hK => ?_
          simp only [List.getElem_toArray, List.getElem_cons_succ, List.getElem_cons_zero] at hK ⊢
          clear haf hlo hhi hun ho hsr
          go_simp
          exact hK
        | 10, ho, hlo, hhi, haf, hun =>
          obtain rfl := Option.some.inj ho
          have f9 := getq (show a.tmps.getD 23 undef = .pointer (some ⟨g, k * 16, none⟩) from haf ⟨9, .data⟩ (by simp) rfl 23 rfl)
          obtain rfl : s = 0 := by have := hhi 0 (by decide) (.inr (by kernel_rfl)); simp at hsr; omega
          refine step_c (w' := SS 0) rfl fun K hK => ?_
          simp only [List.getElem_toArray, List.getElem_cons_succ, List.getElem_cons_zero] at hK ⊢
          clear haf hlo hhi hun ho hsr
          go_simp
          exact hK
        | 11, ho, hlo, hhi, haf, hun =>
          obtain rfl := Option.some.inj ho
          have f10 := getq (show a.tmps.getD 24 undef = .pointer (some ⟨g, k * 16, none⟩) from haf ⟨10, .data⟩ (by simp) rfl 24 rfl)
          obtain rfl : s = 0 := by have := hhi 0 (by decide) (.inr (by kernel_rfl)); simp at hsr; omega
          refine step_c (w' := SS 0) rfl fun K hK => ?_
          simp only [List.getElem_toArray, List.getElem_cons_succ, List.getElem_cons_zero] at hK ⊢
          clear haf hlo hhi hun ho hsr
          rw [HS0.out] at hK ⊢
          go_simp
          exact hK
        | 12, ho, hlo, hhi, haf, hun =>
          obtain rfl := Option.some.inj ho
          obtain rfl : s = 0 := by have := hhi 0 (by decide) (.inr (by kernel_rfl)); simp at hsr; omega
          refine step_c (w' := SS 0) rfl fun K hK => ?_
          simp only [List.getElem_toArray, List.getElem_cons_succ, List.getElem_cons_zero] at hK ⊢
          clear haf hlo hhi hun ho hsr
          go_simp
          exact hK
        | 13, ho, hlo, hhi, haf, hun =>
          obtain rfl := Option.some.inj ho
          obtain rfl : s = 0 := by have := hhi 0 (by decide) (.inr (by kernel_rfl)); simp at hsr; omega
          refine step_c (w' := SS 0) rfl fun K hK => ?_
          simp only [List.getElem_toArray, List.getElem_cons_succ, List.getElem_cons_zero] at hK ⊢
          clear haf hlo hhi hun ho hsr
          go_simp
          exact hK
        | 14, ho, hlo, hhi, haf, hun =>
          obtain rfl := Option.some.inj ho
          have f12 := getq (show a.tmps.getD 26 undef = Value.slice (some { block := g, off := 0 }) L.length cu from haf ⟨12, .data⟩ (by simp) rfl 26 rfl)
          have f13 := getq (show a.tmps.getD 27 undef = Value.int IntKind.i64 (k : Int) from haf ⟨13, .data⟩ (by simp) rfl 27 rfl)
          obtain rfl : s = 0 := by have := hhi 0 (by decide) (.inr (by kernel_rfl)); simp at hsr; omega
          refine step_c (w' := SS 0) rfl fun K hK => ?_
          simp only [List.getElem_toArray, List.getElem_cons_succ, List.getElem_cons_zero] at hK ⊢
          clear haf hlo hhi hun ho hsr
          go_simp
          exact hK
        | 15, ho, hlo, hhi, haf, hun =>
          obtain rfl := Option.some.inj ho
          have f14 := getq (show a.tmps.getD 28 undef = .pointer (some ⟨g, k * 16, none⟩) from haf ⟨14, .data⟩ (by simp) rfl 28 rfl)
          obtain rfl : s = 0 := by have := hhi 0 (by decide) (.inr (by kernel_rfl)); simp at hsr; omega
          refine step_c (w' := SS 0) rfl fun K hK => ?_
          simp only [List.getElem_toArray, List.getElem_cons_succ, List.getElem_cons_zero] at hK ⊢
          clear haf hlo hhi hun ho hsr
          go_simp
          exact hK
        | 16, ho, hlo, hhi, haf, hun =>
          obtain rfl := Option.some.inj ho
          have f15 := getq (show a.tmps.getD 29 undef = .pointer (some ⟨g, k * 16 + 1, none⟩) from haf ⟨15, .data⟩ (by simp) rfl 29 rfl)
          obtain rfl : s = 0 := by have := hhi 0 (by decide) (.inr (by kernel_rfl)); simp at hsr; omega
          refine step_c (w' := SS 0) rfl fun K hK => ?_
          simp only [List.getElem_toArray, List.getElem_cons_succ, List.getElem_cons_zero] at hK ⊢
          clear haf hlo hhi hun ho hsr
          rw [HS0.out] at hK ⊢
          go_simp
          exact hK
        | 17, ho, hlo, hhi, haf, hun =>
          obtain rfl := Option.some.inj ho
          have f11 := getq (show a.tmps.getD 25 undef = .int .i64 (x1 : Int) from haf ⟨11, .data⟩ (by simp) rfl 25 rfl)
          have f16 := getq (show a.tmps.getD 30 undef = .int .i64 (x2 : Int) from haf ⟨16, .data⟩ (by simp) rfl 30 rfl)
          obtain rfl : s = 0 := by have := hhi 0 (by decide) (.inr (by kernel_rfl)); simp at hsr; omega
          refine step_c (w' := SS 0) rfl fun K hK => ?_
          simp only [List.getElem_toArray, List.getElem_cons_succ, List.getElem_cons_zero] at hK ⊢
          clear haf hlo hhi hun ho hsr
          go_simp
          exact hK
        | 18, ho, hlo, hhi, haf, hun =>
          obtain rfl := Option.some.inj ho
          have f1 := getq (show a.tmps.getD 15 undef = Value.slice av0 l.length c from haf ⟨1, .data⟩ (by simp) rfl 15 rfl)
          have f6 := getq (show a.tmps.getD 20 undef = .int .i64 (x1 : Int) from haf ⟨6, .data⟩ (by simp) rfl 20 rfl)
          have f17 := getq (show a.tmps.getD 31 undef = .int .i64 ((x1 : Int) + (x2 : Int)) from haf ⟨17, .data⟩ (by simp) rfl 31 rfl)
          obtain rfl : s = 0 := by have := hhi 0 (by decide) (.inr (by kernel_rfl)); simp at hsr; omega
          refine step_c (w' := SS 0) rfl fun K hK => ?_
          simp only [List.getElem_toArray, List.getElem_cons_succ, List.getElem_cons_zero] at hK ⊢
          clear haf hlo hhi hun ho hsr
          go_simp
          exact hK
        | 19, ho, hlo, hhi, haf, hun =>
          obtain rfl := Option.some.inj ho
          have f0 := getq (show a.tmps.getD 14 undef = Value.slice av CL.length cv from haf ⟨0, .data⟩ (by simp) rfl 14 rfl)
          have f18 := getq (show a.tmps.getD 32 undef = .slice va x2 vc from haf ⟨18, .data⟩ (by simp) rfl 32 rfl)
          obtain rfl : s = 0 := by have := hhi 0 (by decide) (.inl (by kernel_rfl)); omega
          refine step_c (w' := SS 1) rfl fun K hK => ?_
          simp only [List.getElem_toArray, List.getElem_cons_succ, List.getElem_cons_zero] at hK ⊢
          clear haf hlo hhi hun ho hsr
          rw [HS1.out] at hK
          rw [HS0.out]
          go_simp
          exact hK
        | 20, ho, hlo, hhi, haf, hun =>
          obtain rfl := Option.some.inj ho
          have f19 := getq (show a.tmps.getD 33 undef = .slice a3 (CL.length + x2) c3 from haf ⟨19, .data⟩ (by simp) rfl 33 rfl)
          obtain rfl : s = 1 := by have := hlo 0 (by decide) (by kernel_rfl); simp at hsr; omega
          refine step_c (w' := SS 1) rfl fun K hK => ?_
          simp only [List.getElem_toArray, List.getElem_cons_succ, List.getElem_cons_zero] at hK ⊢
          clear haf hlo hhi hun ho hsr
          go_simp
          exact hK
        | n + 21, ho, _, _, _, _ => simp at ho
      · intro aa hdf hsz hout hval
        have hat : aa.tmps = #[Value.slice av0 l.length c, undef, Value.slice none 0 0, .slice a3 (CL.length + x2) c3, Value.slice (some { block := g, off := 0 }) L.length cu, Value.int IntKind.i64 (k : Int), Value.slice av0 l.length c, Value.slice (some { block := g, off := 0 }) L.length cu, Value.int IntKind.i64 (k : Int), Value.slice (some { block := g, off := 0 }) L.length cu, Value.int IntKind.i64 (L.length : Int), Value.bool true, u12, u13, Value.slice av CL.length cv, Value.slice av0 l.length c, Value.slice (some { block := g, off := 0 }) L.length cu, Value.int IntKind.i64 (k : Int), .pointer (some ⟨g, k * 16, none⟩), .pointer (some ⟨g, k * 16, none⟩), .int .i64 (x1 : Int), Value.slice (some { block := g, off := 0 }) L.length cu, Value.int IntKind.i64 (k : Int), .pointer (some ⟨g, k * 16, none⟩), .pointer (some ⟨g, k * 16, none⟩), .int .i64 (x1 : Int), Value.slice (some { block := g, off := 0 }) L.length cu, Value.int IntKind.i64 (k : Int), .pointer (some ⟨g, k * 16, none⟩), .pointer (some ⟨g, k * 16 + 1, none⟩), .int .i64 (x2 : Int), .int .i64 ((x1 : Int) + (x2 : Int)), .slice va x2 vc, .slice a3 (CL.length + x2) c3, undef] := by
          refine arr_one (hsz.trans rfl) fun kk hkk => ?_
          match kk, hkk with
          | 0, _ => exact hout 0 (notDst_spec (by kernel_rfl))
          | 1, _ => exact hout 1 (notDst_spec (by kernel_rfl))
          | 2, _ => exact hout 2 (notDst_spec (by kernel_rfl))
          | 3, _ => exact hval 20 3 (by decide) rfl
          | 4, _ => exact hout 4 (notDst_spec (by kernel_rfl))
          | 5, _ => exact hout 5 (notDst_spec (by kernel_rfl))
          | 6, _ => exact hout 6 (notDst_spec (by kernel_rfl))
          | 7, _ => exact hout 7 (notDst_spec (by kernel_rfl))
          | 8, _ => exact hout 8 (notDst_spec (by kernel_rfl))
          | 9, _ => exact hout 9 (notDst_spec (by kernel_rfl))
          | 10, _ => exact hout 10 (notDst_spec (by kernel_rfl))
          | 11, _ => exact hout 11 (notDst_spec (by kernel_rfl))
          | 12, _ => exact hout 12 (notDst_spec (by kernel_rfl))
          | 13, _ => exact hout 13 (notDst_spec (by kernel_rfl))
          | 14, _ => exact hval 0 14 (by decide) rfl
          | 15, _ => exact hval 1 15 (by decide) rfl
          | 16, _ => exact hval 2 16 (by decide) rfl
          | 17, _ => exact hval 3 17 (by decide) rfl
          | 18, _ => exact hval 4 18 (by decide) rfl
          | 19, _ => exact hval 5 19 (by decide) rfl
          | 20, _ => exact hval 6 20 (by decide) rfl
          | 21, _ => exact hval 7 21 (by decide) rfl
          | 22, _ => exact hval 8 22 (by decide) rfl
          | 23, _ => exact hval 9 23 (by decide) rfl
          | 24, _ => exact hval 10 24 (by decide) rfl
          | 25, _ => exact hval 11 25 (by decide) rfl
          | 26, _ => exact hval 12 26 (by decide) rfl
          | 27, _ => exact hval 13 27 (by decide) rfl
          | 28, _ => exact hval 14 28 (by decide) rfl
          | 29, _ => exact hval 15 29 (by decide) rfl
          | 30, _ => exact hval 16 30 (by decide) rfl
          | 31, _ => exact hval 17 31 (by decide) rfl
          | 32, _ => exact hval 18 32 (by decide) rfl
          | 33, _ => exact hval 19 33 (by decide) rfl
          | 34, _ => exact hout 34 (notDst_spec (by kernel_rfl))
          | n + 35, h => exact absurd h (by simp)
        obtain ⟨tt, dd⟩ := aa
        simp only at hat hdf
        subst hat hdf
        clear hsz hout hval
        rw [show SS [19].length = w3 from HS1.out]
        go_wp2_with fail
        go_roundw
        case rel => exact ⟨k + 1, by omega, by go_num, by rw [← HCS.out]; exact HJ3.out, HG3.out⟩
        case measure => simp [intOf]; omega
    · obtain rfl : k = L.length := by omega
      rw [List.take_length] at HJB ⊢
      go_wp2_with fail
      go_ret
      exact ⟨_, rfl, by rw [← HLL.out]; exact jbQ_lower HJB.out hs1, HB.out.trans (HBr.out.mono hs1)⟩
end Vt
end Go.Proofs.Ytabfgoojhangnaa
