/-
  THE REFERENCE OF LAYER 10: Run: the frames that bytes are from end to end.
  hint.written; hint.through: frames from end to end, each handed to a function value.
-/
import Derived.Test.YtnjhbidialngmaaXhbi
import Derived.Test.YtnjhbidialngmaaXhbj
import Derived.Test.YtnjhbidialngmaaXhao
import Derived.Test.YtnjhbidialngmaaXhbh
namespace Go.Proofs.Ytnjhbidialngmaa
open Go.RowKit Go.Shelf
namespace Vt
attribute [local go_sem] Oper.semAt_some
set_option maxRecDepth 100000 in
set_option maxHeartbeats 2000000 in
theorem r10_run (v : Value) (l : List Nat) (w : World) (hI : IsB w v l) (hl : l.length ≤ 16777216) :
    Calls Try.prog 44 #[v] w fun e w' => ((Cl l ∧ ∃ u, e = .returned (.tuple #[u, .bool true]) ∧ JL w' w.heap.size u ((locs 0 l).map lcv)) ∨ (¬ Cl l ∧ e = .returned (.tuple #[.slice none 0 0, .bool false]))) ∧ Below w.heap.size w w' := by
  obtain ⟨a, c, rfl⟩ := hI.shape
  have HI := hd hI
  have hby := hI.1
  have HBY := hd hby
  have hll := locs_len hby _ (Nat.le_refl _) 0
  clear hI hby
  go_enter Try.func44, Try.ntmps44
  go_wp2_with fail
  go_loopw [4, 5] (fun o i wr => ∃ (k : Nat) (pre : List Lc), k ≤ l.length ∧ i = .int .i64 (k : Int) ∧ JL wr w.heap.size o (pre.map lcv) ∧ sml pre = k ∧ locs 0 l = pre ++ locs k (l.drop k) ∧ Below w.heap.size w wr) (fun _ i _ => l.length - (intOf i).toNat)
  case atStart => exact ⟨0, [], by omega, rfl, jr_nil _ _, rfl, by simp, Below.refl _ _⟩
  case round =>
    obtain ⟨k, pre, hk, rfl, hj, hsm, hpre, hb⟩ := hrel
    obtain ⟨av, cv, rfl, hcv⟩ := hj.shape
    have hpl : (pre.map lcv).length = pre.length := List.length_map _
    have hpn : 9 * pre.length ≤ l.length := by
      rw [hpre, List.length_append] at hll
      omega
    rw [hpl] at hcv hj ⊢
    have HJ := hd hj
    have HPRE := hd hpre
    have HSM := hd hsm
    have HB := hd hb
    have hsz := hb.size
    clear hj hpre hb hsm
    by_cases hlt : k < l.length
    · have HDE := hd (fun w' (h : Below w.heap.size w w') => r4_decode _ l (k : Int) w' (HI.out.below h) (by omega))
      rw [decF_at hlt] at HDE
      have HGA := hd (fun he => gap HBY.out hlt HSM.out HPRE.out he)
      have HOK := hd (fun h => locs_ok (byt_drop HBY.out k) k h)
      have HIN := hd (fun h => en_dcd (byt_drop HBY.out k) h)
      obtain ⟨f, q, er, hdd⟩ : ∃ f q er, dcd (l.drop k) = (f, q, er) := ⟨_, _, _, rfl⟩
      rw [hdd] at HDE HGA HOK HIN
      clear hdd
      obtain ⟨fk, ⟨rl, rk, rkey, rval⟩, ⟨pl, pk, pa, pn, pkey⟩, ⟨ec, eb, ef, es⟩⟩ := f
      simp only [dval, fv] at HDE
      go_wp2_with fail
      refine Calls.mono (HDE.out _ HB.out) ?_
      rintro e w1 ⟨rfl, hb1⟩
      have HJ1 := hd (HJ.out.keepAll hb1)
      have HB1 := hd (HB.out.trans (hb1.mono hsz))
      have hs1 := hb1.size
      clear hb1 HDE HJ HB
      by_cases her : er = 0
      · subst her
        have HO1 := hd (HOK.out rfl)
        have hql := (HIN.out rfl).2.2.2.1
        have hq9 : 1 ≤ q := by
          have hm : (k, q, ⟨fk, ⟨rl, rk, rkey, rval⟩, ⟨pl, pk, pa, pn, pkey⟩, ⟨ec, eb, ef, es⟩⟩) ∈ locs k (l.drop k) := by rw [HO1.out]; exact List.mem_cons_self
          have := (locs_mem (byt_drop HBY.out k) k _ hm).2.2.2.1
          simp only at this
          omega
        simp only [List.length_drop] at hql
        have HONE : Hid (∀ u ∈ ([.int .i64 fk, .int .u64 (rl : Int), .int .i64 rk, .string rkey, .string rval, .int .u64 (pl : Int), .int .i64 pk, .int .i64 pa, .int .i64 pn, .string pkey, .int .i64 ec, .int .i64 eb, .int .i64 ef, .int .u32 (es : Int), .int .i64 (k : Int), .int .i64 (q : Int)] : List Value), u.oneCell' = true) := hd (lcv_one (k, q, ⟨fk, ⟨rl, rk, rkey, rval⟩, ⟨pl, pk, pa, pn, pkey⟩, ⟨ec, eb, ef, es⟩⟩))
        clear HGA HOK HIN
        go_wp2_with (at_builtin; refine wpList_append_jr Try.underlying77 info_lc rfl (by decide) _ rfl _ _ rfl w.heap.size (.slice av pre.length cv) (pre.map lcv) (w1.heap.size + 1) 1 [.int .i64 fk, .int .u64 (rl : Int), .int .i64 rk, .string rkey, .string rval, .int .u64 (pl : Int), .int .i64 pk, .int .i64 pa, .int .i64 pn, .string pkey, .int .i64 ec, .int .i64 eb, .int .i64 ef, .int .u32 (es : Int), .int .i64 (k : Int), .int .i64 (q : Int)] rfl rfl ((HJ1.out.alloc _).alloc _) rfl HONE.out (fun j u hu => cell_lit (w1.alloc _) _ _ j u _ (by simp) hu) (pre.length + 1) (by rw [hpl]) (by omega) (by unfold maxLen; omega) (by simp; omega) ?_; intro g3 c3 w3 hj3 hg3 hw3)
        have hb3 := (((HB1.out.alloc (by omega) _).alloc (by simp; omega) _).grown hg3 (by simp; omega) (fun g e => HJ1.out.blk_ge g e))
        go_roundw
        case rel => exact ⟨k + q, pre ++ [(k, q, ⟨fk, ⟨rl, rk, rkey, rval⟩, ⟨pl, pk, pa, pn, pkey⟩, ⟨ec, eb, ef, es⟩⟩)], by omega, by simp only [Int.natCast_add], by rw [List.map_append]; exact hj3, by rw [sml_app, HSM.out, sml_cons, sml_nil]; rfl, by rw [HPRE.out, HO1.out, List.drop_drop, List.append_assoc]; rfl, hb3⟩
        case measure => simp [intOf]; omega
      · have e1 : ((er : Int) != 0) = true := by rw [bne_iff_ne]; omega
        have HNO := hd (HGA.out her)
        clear her
        go_wp2_with fail
        go_ret2
        exact ⟨.inr ⟨HNO.out, rfl⟩, HB1.out.alloc (by omega) _⟩
    · obtain rfl : k = l.length := by omega
      have HL2 : Hid (pre = locs 0 l) := hd (by
        have := HPRE.out
        rw [List.drop_length, locs_nil, List.append_nil] at this
        exact this.symm)
      have HCL : Hid (Cl l) := hd (by unfold Cl; rw [← HL2.out]; exact HSM.out)
      go_wp2_with fail
      go_ret2
      exact ⟨.inl ⟨HCL.out, _, rfl, by rw [← HL2.out]; exact HJ.out⟩, HB.out⟩
end Vt
end Go.Proofs.Ytnjhbidialngmaa
namespace Go.Proofs.Ytnjhbidialngmaa
open Go.RowKit Go.Shelf
namespace Vt
attribute [local go_sem] Oper.semAt_some
set_option maxRecDepth 100000 in
set_option maxHeartbeats 1000000 in
theorem written_is (f : Fr) (w : World) (hw : f.Wf) (h : rf f = 0) : Calls Try.prog 41 #[.agg (fv f)] w fun e w' => ∃ u, e = .returned u ∧ JB w' w.heap.size u (en f) ∧ Below w.heap.size w w' := by
  have HE : Hid (∀ w, Calls Try.prog 7 #[.agg (fv f)] w fun e w' => ∃ u, e = .returned (.tuple #[u, .int .i64 0]) ∧ JB w' w.heap.size u (en f) ∧ Below w.heap.size w w') := fun w => encF_all hw h w
  obtain ⟨ls, hls⟩ : ∃ ls, ls = en f := ⟨_, rfl⟩
  rw [← hls] at HE ⊢
  clear hls hw h
  obtain ⟨k, ⟨rl, rk, rkey, rval⟩, ⟨pl, pk, pa, pn, pkey⟩, ⟨ec, eb, ef, es⟩⟩ := f
  simp only [fv] at HE ⊢
  go_enter Try.func41, Try.ntmps41
  go_wp2_with fail
  refine Calls.mono (HE.out _) ?_
  rintro e w1 ⟨u, rfl, hj, hb⟩
  clear HE
  have HJ := hd hj
  have HB := hd hb
  clear hj hb
  go_wp2_with fail
  go_ret
  have h1 : Below w.heap.size w w1 := ((Below.refl _ _).alloc (Nat.le_refl _) _).trans (HB.out.mono (by simp))
  exact ⟨u, rfl, HJ.out.base (by simp), h1⟩
end Vt
end Go.Proofs.Ytnjhbidialngmaa
