/-
  hint.through: frames from end to end, each handed to a function value.
-/
import Derived.Test.YtifjjoobbegpoaaMhbk
import Derived.Test.YtifjjoobbegpoaaMhbl
namespace Go.Proofs.Ytifjjoobbegpoaa
open Go.RowKit Go.Shelf
namespace Vt
attribute [local go_sem] Oper.semAt_some
theorem lcv_lfv (x : Lc) : (lcv x).toArray = lfv x.2.2 (x.1 : Int) (x.2.1 : Int) := rfl
set_option maxRecDepth 100000 in
set_option maxHeartbeats 2000000 in
theorem through_is (v : Value) (l : List Nat) (w : World) (ff : Nat) (caps : Array Value) (J Jx : List Lc → World → Prop) (hbl : Byt l)
    (hJb : ∀ pre W W', J pre W → Below W.heap.size W W' → J pre W') (hJI : ∀ pre W, J pre W → IsB W v l)
    (hcf : ∀ args w, (callFunc ff args).run Try.prog w = .ok (.enter ff args) w)
    (htake : ∀ pre x W, J pre W → pre ++ [x] <+: locs 0 l → Calls Try.prog ff (#[.agg (lfv x.2.2 (x.1 : Int) (x.2.1 : Int))] ++ caps) W fun e W' => (e = .returned (.bool true) ∧ J (pre ++ [x]) W') ∨ (e = .returned (.bool false) ∧ Jx (pre ++ [x]) W')) (h0 : J [] w) :
    Calls Try.prog 49 #[v, .func (.func ff) #[] caps] w fun e W' => (e = .returned (.bool true) ∧ Cl l ∧ J (locs 0 l) W') ∨ (e = .returned (.bool false) ∧ ((¬ Cl l ∧ ∃ pre, J pre W') ∨ ∃ pre, pre <+: locs 0 l ∧ Jx pre W')) := by
  have HJI := hd hJI
  have HJb := hd hJb
  have HT := hd htake
  have HBL := hd hbl
  obtain ⟨a, c, rfl⟩ := (hJI _ _ h0).shape
  clear hJI hJb htake hbl
  go_enter Try.func49, Try.ntmps49
  go_wp2_with fail
  go_loopw [5] (fun i wr => ∃ (at_ : Nat) (pre : List Lc), at_ ≤ l.length ∧ i = .int .i64 (at_ : Int) ∧ locs 0 l = pre ++ locs at_ (l.drop at_) ∧ sml pre = at_ ∧ J pre wr) (fun i _ => l.length - (intOf i).toNat)
  case atStart => exact ⟨0, [], by omega, rfl, by simp, rfl, h0⟩
  case round =>
    obtain ⟨at_, pre, hat, rfl, hall, hsm, hj⟩ := hrel
    have HALL := hd hall
    have HSM := hd hsm
    have HJ := hd hj
    clear hall hsm hj
    by_cases hlt : at_ < l.length
    · have HC := hd (decode_all _ l (at_ : Int) wr (HJI.out _ _ HJ.out))
      have hdec : decF l (at_ : Int) = dcd (l.drop at_) := by unfold decF; rw [if_neg (by omega), Int.toNat_natCast]
      rw [hdec] at HC
      clear hdec
      have hbd := byt_drop HBL.out at_
      by_cases he : (dcd (l.drop at_)).2.2 = 0
      · obtain ⟨k1, k2, k3, k4, k5⟩ := en_dcd hbd he
        have hp := en_pos (dcd (l.drop at_)).1
        have hok := locs_ok hbd at_ he
        have hlat : (l.drop at_).length = l.length - at_ := List.length_drop
        rw [hlat] at k4
        obtain ⟨f, q, er, hdd⟩ : ∃ f q er, dcd (l.drop at_) = (f, q, er) := ⟨_, _, _, rfl⟩
        rw [hdd] at he k1 k2 k3 k4 hp hok HC
        simp only [List.drop_drop] at he k1 k2 k3 k4 hp hok
        subst he
        have hq9 : 9 ≤ q := by omega
        have HALL2 := hd (show locs 0 l = (pre ++ [(at_, q, f)]) ++ locs (at_ + q) (l.drop (at_ + q)) by rw [HALL.out, hok]; simp)
        have HSM2 := hd (show sml (pre ++ [(at_, q, f)]) = at_ + q by rw [sml_app, HSM.out]; simp [sml])
        have HTT : Hid (∀ W, Below wr.heap.size wr W → Calls Try.prog ff (#[.agg (lfv f (at_ : Int) (q : Int))] ++ caps) W fun e W' => (e = .returned (.bool true) ∧ J (pre ++ [(at_, q, f)]) W') ∨ (e = .returned (.bool false) ∧ Jx (pre ++ [(at_, q, f)]) W')) :=
          fun W hW => HT.out pre (at_, q, f) W (HJb.out _ _ _ HJ.out hW) (HALL2.out ▸ List.prefix_append _ _)
        have HPF := hd (show pre ++ [(at_, q, f)] <+: locs 0 l from HALL2.out ▸ List.prefix_append _ _)
        clear hok hdd hlat k1 k2 k3 k5 hp hbd HALL HSM HT
        obtain ⟨k, ⟨rl, rk, rkey, rval⟩, ⟨pl, pk, pa, pn, pkey⟩, ⟨ec, eb, ef, es⟩⟩ := f
        have HDV : Hid (dval (⟨k, ⟨rl, rk, rkey, rval⟩, ⟨pl, pk, pa, pn, pkey⟩, ⟨ec, eb, ef, es⟩⟩, q, 0) = .tuple #[.agg #[.int .i64 k, .int .u64 (rl : Int), .int .i64 rk, .string rkey, .string rval, .int .u64 (pl : Int), .int .i64 pk, .int .i64 pa, .int .i64 pn, .string pkey, .int .i64 ec, .int .i64 eb, .int .i64 ef, .int .u32 (es : Int)], .int .i64 (q : Int), .int .i64 0]) := rfl
        rw [HDV.out] at HC
        simp only [lfv] at HTT
        clear HDV
        go_wp2_with fail
        refine Calls.mono HC.out ?_
        rintro e w1 ⟨rfl, hb1⟩
        have HB1 := hd hb1
        clear HC hb1
        go_wp2_with fail
        refine Calls.mono (HTT.out _ (HB1.out.alloc HB1.out.size _)) ?_
        rintro e w2 (⟨rfl, hj2⟩ | ⟨rfl, hj2⟩)
        · have HJ2 := hd hj2
          have hcast : ((at_ + q : Nat) : Int) = (at_ : Int) + (q : Int) := by omega
          have hm47 : (l.length : Int) ≤ 9223372036854775807 := by have := (HJI.out _ _ HJ.out).2.1; unfold maxLen at this; omega
          clear hj2 HTT
          go_wp2_with fail
          go_roundw
          case rel => exact ⟨at_ + q, _, by omega, rfl, HALL2.out, HSM2.out, HJ2.out⟩
          case measure => simp [intOf]; omega
        · have HJ2 := hd hj2
          clear hj2 HTT
          go_wp2_with fail
          go_ret
          exact .inr ⟨rfl, .inr ⟨_, HPF.out, HJ2.out⟩⟩
      · obtain ⟨k1, k2⟩ := dcd_err he
        have hgap := gap HBL.out hlt HSM.out HALL.out he
        obtain ⟨f, q, er, hdd⟩ : ∃ f q er, dcd (l.drop at_) = (f, q, er) := ⟨_, _, _, rfl⟩
        rw [hdd] at he k1 k2 HC
        simp only at he k1 k2
        subst k1 k2
        rw [dval_zf] at HC
        have he2 : ((er : Int) != 0) = true := by simp; omega
        have HG := hd hgap
        clear hgap hdd hbd
        go_wp2_with fail
        refine Calls.mono HC.out ?_
        rintro e w1 ⟨rfl, hb1⟩
        have HB1 := hd hb1
        clear HC hb1
        go_wp2_with fail
        go_ret
        exact .inr ⟨rfl, .inl ⟨HG.out, pre, HJb.out _ _ _ HJ.out (HB1.out.alloc HB1.out.size _)⟩⟩
    · obtain rfl : at_ = l.length := by omega
      rw [List.drop_length, locs_nil, List.append_nil] at HALL
      have HCL := hd (show Cl l by unfold Cl; rw [HALL.out]; exact HSM.out)
      go_wp2_with fail
      go_ret
      exact .inl ⟨rfl, HCL.out, HALL.out ▸ HJ.out⟩
end Vt
end Go.Proofs.Ytifjjoobbegpoaa
