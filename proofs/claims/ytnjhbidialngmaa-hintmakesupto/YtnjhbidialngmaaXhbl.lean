/-
  hint.through: frames from end to end, each handed to a function value.
  A REGION THAT DRAWS ITS ORDER, whose operations that turn the world stand one behind the other (a chain): each operation is looked at once, in the worlds in which it may come up. No condition beyond those that each theorem bears.
-/
import Derived.Test.YtnjhbidialngmaaXhbj
import Derived.Test.YtnjhbidialngmaaXhbk
import Derived.Test.YtnjhbidialngmaaXhan
namespace Go.Proofs.Ytnjhbidialngmaa
open Go.RowKit Go.Shelf
namespace Vt
attribute [local go_sem] Oper.semAt_some
set_option maxRecDepth 100000 in
set_option maxHeartbeats 2000000 in
theorem through_is (v : Value) (l : List Nat) (w : World) (ff : Nat) (caps : Array Value) (J Jx : List Lc → World → Prop) (hbl : Byt l)
    (hJb : ∀ pre W W', J pre W → Below W.heap.size W W' → J pre W') (hJI : ∀ pre W, J pre W → IsB W v l)
    (hcf : ∀ args w, (callFunc ff args).run Try.prog w = .ok (.enter ff args) w)
    (htake : ∀ pre x W, J pre W → pre ++ [x] <+: locs 0 l → Calls Try.prog ff (#[.agg (lfv x.2.2 (x.1 : Int) (x.2.1 : Int))] ++ caps) W fun e W' => (e = .returned (.bool true) ∧ J (pre ++ [x]) W') ∨ (e = .returned (.bool false) ∧ Jx (pre ++ [x]) W')) (h0 : J [] w) :
    Calls Try.prog 38 #[v, .func (.func ff) #[] caps] w fun e W' => (e = .returned (.bool true) ∧ Cl l ∧ J (locs 0 l) W') ∨ (e = .returned (.bool false) ∧ ((¬ Cl l ∧ ∃ pre, J pre W') ∨ ∃ pre, pre <+: locs 0 l ∧ Jx pre W')) := by
  have HJI := hd hJI
  have HJb := hd hJb
  have HT := hd htake
  have HBL := hd hbl
  obtain ⟨a, c, rfl⟩ := (hJI _ _ h0).shape
  clear hJI hJb htake hbl
  go_enter Try.func38, Try.ntmps38
  go_wp2_with fail
  go_loopw [5] (fun i wr => ∃ (at_ : Nat) (pre : List Lc), at_ ≤ l.length ∧ i = .int .i64 (at_ : Int) ∧ locs 0 l = pre ++ locs at_ (l.drop at_) ∧ sml pre = at_ ∧ J pre wr) (fun i _ => l.length - (intOf i).toNat)
  case atStart => exact ⟨0, [], by omega, rfl, by simp, rfl, h0⟩
  case round =>
    obtain ⟨at_, pre, hat, rfl, hall, hsm, hj⟩ := hrel
    have HALL := hd hall
    have HSM := hd hsm
    have HJ := hd hj
    clear hall hsm hj
    by_cases hlt : at_ < l.length
    · have HC := hd (decode_all _ l (at_ : Int) wr (HJI.out _ _ HJ.out))
      have hdec : decF l (at_ : Int) = dcd (l.drop at_) := by unfold decF; rw [if_neg (by omega), Int.toNat_natCast]
      rw [hdec] at HC
      clear hdec
      have hbd := byt_drop HBL.out at_
      by_cases he : (dcd (l.drop at_)).2.2 = 0
      · obtain ⟨k1, k2, k3, k4, k5⟩ := en_dcd hbd he
        have hp := en_pos (dcd (l.drop at_)).1
        have hok := locs_ok hbd at_ he
        have hlat : (l.drop at_).length = l.length - at_ := List.length_drop
        rw [hlat] at k4
        obtain ⟨f, q, er, hdd⟩ : ∃ f q er, dcd (l.drop at_) = (f, q, er) := ⟨_, _, _, rfl⟩
        rw [hdd] at he k1 k2 k3 k4 hp hok HC
        simp only [List.drop_drop] at he k1 k2 k3 k4 hp hok
        subst he
        have hq9 : 9 ≤ q := by omega
        have HALL2 := hd (show locs 0 l = (pre ++ [(at_, q, f)]) ++ locs (at_ + q) (l.drop (at_ + q)) by rw [HALL.out, hok]; simp)
        have HSM2 := hd (show sml (pre ++ [(at_, q, f)]) = at_ + q by rw [sml_app, HSM.out]; simp [sml])
        have HTT : Hid (∀ W, Below wr.heap.size wr W → Calls Try.prog ff (#[.agg (lfv f (at_ : Int) (q : Int))] ++ caps) W fun e W' => (e = .returned (.bool true) ∧ J (pre ++ [(at_, q, f)]) W') ∨ (e = .returned (.bool false) ∧ Jx (pre ++ [(at_, q, f)]) W')) :=
          fun W hW => HT.out pre (at_, q, f) W (HJb.out _ _ _ HJ.out hW) (HALL2.out ▸ List.prefix_append _ _)
        have HPF := hd (show pre ++ [(at_, q, f)] <+: locs 0 l from HALL2.out ▸ List.prefix_append _ _)
        clear hok hdd hlat k1 k2 k3 k5 hp hbd HALL HSM HT
        obtain ⟨k, ⟨rl, rk, rkey, rval⟩, ⟨pl, pk, pa, pn, pkey⟩, ⟨ec, eb, ef, es⟩⟩ := f
        have HDV : Hid (dval (⟨k, ⟨rl, rk, rkey, rval⟩, ⟨pl, pk, pa, pn, pkey⟩, ⟨ec, eb, ef, es⟩⟩, q, 0) = .tuple #[.agg #[.int .i64 k, .int .u64 (rl : Int), .int .i64 rk, .string rkey, .string rval, .int .u64 (pl : Int), .int .i64 pk, .int .i64 pa, .int .i64 pn, .string pkey, .int .i64 ec, .int .i64 eb, .int .i64 ef, .int .u32 (es : Int)], .int .i64 (q : Int), .int .i64 0]) := rfl
        rw [HDV.out] at HC
        simp only [lfv] at HTT
        clear HDV
        go_wp2_with fail
        refine Calls.mono HC.out ?_
        rintro e w1 ⟨rfl, hb1⟩
        have HB1 := hd hb1
        clear HC hb1
        go_wp2_with fail
        refine Calls.mono (HTT.out _ (HB1.out.alloc HB1.out.size _)) ?_
        rintro e w2 (⟨rfl, hj2⟩ | ⟨rfl, hj2⟩)
        · have HJ2 := hd hj2
          have hcast : ((at_ + q : Nat) : Int) = (at_ : Int) + (q : Int) := by omega
          have hm47 : (l.length : Int) ≤ 9223372036854775807 := by have := (HJI.out _ _ HJ.out).2.1; unfold maxLen at this; omega
          clear hj2 HTT
          go_wp2_with fail
          go_roundw
          case rel => exact ⟨at_ + q, _, by omega, rfl, HALL2.out, HSM2.out, HJ2.out⟩
          case measure => simp [intOf]; omega
        · have HJ2 := hd hj2
          clear hj2 HTT
          go_wp2_with fail
          go_ret
          exact .inr ⟨rfl, .inr ⟨_, HPF.out, HJ2.out⟩⟩
      · obtain ⟨k1, k2⟩ := dcd_err he
        have hgap := gap HBL.out hlt HSM.out HALL.out he
        obtain ⟨f, q, er, hdd⟩ : ∃ f q er, dcd (l.drop at_) = (f, q, er) := ⟨_, _, _, rfl⟩
        rw [hdd] at he k1 k2 HC
        simp only at he k1 k2
        subst k1 k2
        rw [dval_zf] at HC
        have he2 : ((er : Int) != 0) = true := by simp; omega
        have HG := hd hgap
        clear hgap hdd hbd
        go_wp2_with fail
        refine Calls.mono HC.out ?_
        rintro e w1 ⟨rfl, hb1⟩
        have HB1 := hd hb1
        clear HC hb1
        go_wp2_with fail
        go_ret
        exact .inr ⟨rfl, .inl ⟨HG.out, pre, HJb.out _ _ _ HJ.out (HB1.out.alloc HB1.out.size _)⟩⟩
    · obtain rfl : at_ = l.length := by omega
      rw [List.drop_length, locs_nil, List.append_nil] at HALL
      have HCL := hd (show Cl l by unfold Cl; rw [HALL.out]; exact HSM.out)
      go_wp2_with fail
      go_ret
      exact .inl ⟨rfl, HCL.out, HALL.out ▸ HJ.out⟩
end Vt
end Go.Proofs.Ytnjhbidialngmaa
namespace Go.Proofs.Ytnjhbidialngmaa
open Go Go.RowKit
/-- operation j must come ahead of operation i -/
def anc (ops : Array Oper) : Nat → Nat → Nat → Bool
  | 0, _, _ => false
  | f + 1, i, j => match ops[i]? with
    | none => false
    | some o => o.after.any fun e => Region.binds .any e && (e.on == j || anc ops f e.on j)
def ClosedL (ops : Array Oper) (L : Array Bool) : Prop := ∀ j p, ops[j]? = some p → L.getD j false = true → ∀ e ∈ p.after, Region.binds .any e = true → L.getD e.on false = true
theorem anc_listed {ops : Array Oper} {L : Array Bool} (hc : ClosedL ops L) : ∀ f i j, L.getD i false = true → anc ops f i j = true → L.getD j false = true := by
  intro f
  induction f with
  | zero => intro i j _ h; cases h
  | succ f ih =>
    intro i j hi h
    unfold anc at h
    split at h
    · cases h
    · rename_i o ho
      rw [Array.any_eq_true'] at h
      obtain ⟨e, he, h⟩ := h
      simp only [Bool.and_eq_true, Bool.or_eq_true, beq_iff_eq] at h
      have hl := hc i o ho hi e he h.1
      rcases h.2 with rfl | h2
      · exact hl
      · exact ih _ _ hl h2
theorem anc_ready {ops : Array Oper} {L : Array Bool} (hc : ClosedL ops L) {i : Nat} {o : Oper} (ho : ops[i]? = some o) (hon : ∀ e ∈ o.after, Region.binds .any e = true → L.getD e.on false = true) (f j : Nat) (h : anc ops f i j = true) : L.getD j false = true := by
  cases f with
  | zero => cases h
  | succ f =>
    unfold anc at h
    rw [ho] at h
    simp only [Array.any_eq_true'] at h
    obtain ⟨e, he, h⟩ := h
    simp only [Bool.and_eq_true, Bool.or_eq_true, beq_iff_eq] at h
    have hl := hon e he h.1
    rcases h.2 with rfl | h2
    · exact hl
    · exact anc_listed hc f _ _ hl h2
theorem set_getD' (L : Array Bool) (i j : Nat) (hi : i < L.size) : (L.setIfInBounds i true).getD j false = if j = i then true else L.getD j false := by
  rw [Array.getD_eq_getD_getElem?, Array.getD_eq_getD_getElem?, Array.getElem?_setIfInBounds]
  by_cases h : j = i
  · subst h; simp [hi]
  · rw [if_neg (by omega), if_neg h]
def dstsGood (ops : Array Oper) (n : Nat) : Bool :=
  (List.range ops.size).all fun i => match dstOf ops i with
    | none => true
    | some d => decide (d < n) && (List.range ops.size).all fun j => decide (i = j) || !(dstOf ops j == some d)
theorem good_spec {ops : Array Oper} {n : Nat} (h : dstsGood ops n = true) {i d : Nat} (hi : i < ops.size) (hd : dstOf ops i = some d) : d < n ∧ ∀ j, j < ops.size → j ≠ i → dstOf ops j ≠ some d := by
  unfold dstsGood at h
  have := List.all_eq_true.1 h i (by simpa using hi)
  rw [hd] at this
  simp only [Bool.and_eq_true, decide_eq_true_eq, List.all_eq_true, List.mem_range, Bool.or_eq_true, Bool.not_eq_eq_eq_not, Bool.not_true, beq_eq_false_iff_ne] at this
  refine ⟨this.1, fun j hj hne => ?_⟩
  rcases this.2 j hj with h' | h'
  · exact absurd h'.symm hne
  · exact h'
/-- the movers: no one twice, each behind all that stand ahead of it in the list -/
def chainOk (ops : Array Oper) (ms : List Nat) : Bool :=
  (List.range ms.length).all fun k => (List.range ms.length).all fun k' => decide (k = k') || (decide (ms.getD k 0 ≠ ms.getD k' 0) && (decide (k < k') || anc ops ops.size (ms.getD k 0) (ms.getD k' 0)))
/-- s of the movers are listed, the first ones -/
def Stage (ms : List Nat) (L : Array Bool) (s : Nat) : Prop := s ≤ ms.length ∧ ∀ k, k < ms.length → L.getD (ms.getD k 0) false = decide (k < s)
/-- two frames of one length that read alike are one -/
theorem arr_one {x y : Array Value} (hs : x.size = y.size) (h : ∀ k, k < y.size → x.getD k undef = y.getD k undef) : x = y := by
  refine Array.ext hs fun i h1 h2 => ?_
  have := h i h2
  rwa [Array.getD_eq_getD_getElem?, Array.getD_eq_getD_getElem?, Array.getElem?_eq_getElem h1, Array.getElem?_eq_getElem h2] at this
theorem step_c {P : Program} {o : Oper} {a : Act} {w w' : World} {Q : Exit → Act → World → Prop} {v : Value} {X : World} (hX : w' = X) (h : ∀ K : Act → World → Prop, K (a.put o.dst v) w' → o.wp P a w K Q) : o.wp P a w (fun a' w'' => a' = a.put o.dst v ∧ w'' = X) Q := h _ ⟨rfl, hX⟩
end Go.Proofs.Ytnjhbidialngmaa
