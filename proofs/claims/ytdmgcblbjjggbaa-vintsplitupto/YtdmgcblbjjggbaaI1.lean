/-
  WHAT vint.All TELLS: the plain list 'alls' of places and numbers; and the contract of its iterator: for every loop body that keeps the blocks of S.
-/
import Derived.Test.YtdmgcblbjjggbaaV7
import Derived.Test.YtdmgcblbjjggbaaK0
namespace Go.Proofs.Ytdmgcblbjjggbaa
open Go.RowKit Go.Shelf
namespace Vt
attribute [local go_sem] Oper.semAt_some
theorem dec_len {l : List Nat} (h : (dec l).2.2 = 0) : 1 ≤ (dec l).2.1 ∧ (dec l).2.1 ≤ l.length := by
  have hle := idx_le l
  unfold dec at *
  by_cases h1 : 10 ≤ idx l
  · rw [if_pos h1] at h; simp at h
  · rw [if_neg h1] at h ⊢
    by_cases h2 : idx l = l.length
    · rw [if_pos h2] at h; simp at h
    · rw [if_neg h2] at h ⊢
      by_cases h3 : idx l = 9 ∧ 1 < l.getD 9 0
      · rw [if_pos h3] at h; simp at h
      · rw [if_neg h3] at h ⊢
        by_cases h4 : 0 < idx l ∧ l.getD (idx l) 0 = 0
        · rw [if_pos h4] at h; simp at h
        · rw [if_neg h4]; simp only; omega
def alls : Nat → Nat → List Nat → List (Nat × Nat)
  | 0, _, _ => []
  | f + 1, at_, l => if l = [] then [] else if (dec l).2.2 = 0 then (at_, (dec l).1) :: alls f (at_ + (dec l).2.1) (l.drop (dec l).2.1) else []
theorem alls_fuel (f : Nat) : ∀ (g at_ : Nat) (l : List Nat), l.length ≤ f → l.length ≤ g → alls f at_ l = alls g at_ l := by
  induction f with
  | zero =>
    intro g at_ l h1 h2
    obtain rfl : l = [] := List.length_eq_zero_iff.1 (by omega)
    cases g with
    | zero => rfl
    | succ g => simp [alls]
  | succ f ih =>
    intro g at_ l h1 h2
    cases g with
    | zero =>
      obtain rfl : l = [] := List.length_eq_zero_iff.1 (by omega)
      simp [alls]
    | succ g =>
      unfold alls
      by_cases h : l = []
      · rw [if_pos h, if_pos h]
      · rw [if_neg h, if_neg h]
        by_cases he : (dec l).2.2 = 0
        · have := dec_len he
          rw [if_pos he, if_pos he, ih g _ (l.drop (dec l).2.1) (by rw [List.length_drop]; omega) (by rw [List.length_drop]; omega)]
        · rw [if_neg he, if_neg he]
/-- all that is told of the bytes l, the first of which stands at the place at_ -/
def allB (at_ : Nat) (l : List Nat) : List (Nat × Nat) := alls l.length at_ l
theorem allB_nil (at_ : Nat) : allB at_ [] = [] := rfl
theorem allB_ok {at_ : Nat} {l : List Nat} (h : l ≠ []) (he : (dec l).2.2 = 0) : allB at_ l = (at_, (dec l).1) :: allB (at_ + (dec l).2.1) (l.drop (dec l).2.1) := by
  have hd := dec_len he
  obtain ⟨m, hm⟩ : ∃ m, l.length = m + 1 := ⟨l.length - 1, by omega⟩
  unfold allB
  rw [hm, alls, if_neg h, if_pos he, alls_fuel m _ _ _ (by rw [List.length_drop]; omega) (Nat.le_refl _)]
theorem allB_err {at_ : Nat} {l : List Nat} (he : (dec l).2.2 ≠ 0) : allB at_ l = [] := by
  unfold allB
  cases l with
  | nil => rfl
  | cons x r => rw [List.length_cons, alls, if_neg (by simp), if_neg he]
theorem allB_len (at_ : Nat) (l : List Nat) : (allB at_ l).length ≤ l.length := by
  have key : ∀ f at_ l, (alls f at_ l).length ≤ f := by
    intro f
    induction f with
    | zero => intro at_ l; simp [alls]
    | succ f ih =>
      intro at_ l
      unfold alls
      split
      · simp
      · split
        · rw [List.length_cons]; have := ih (at_ + (dec l).2.1) (l.drop (dec l).2.1); omega
        · simp
  exact key _ _ _
/-- 'vint.All(b)': the slice is boxed; the function value captures the box. -/
theorem all_is (a : Option Addr) (len cap : Nat) (w : World) :
    Calls Try.prog 8 #[.slice a len cap] w fun e w' => e = .returned (.func (.func 26) #[] #[.pointer (some ⟨w.heap.size, 0, none⟩)]) ∧ w' = w.alloc (.cells #[.slice a len cap] 23) := by
  go_enter Try.func8, Try.ntmps8
  go_wp2
  go_ret
  exact ⟨rfl, rfl⟩
/-- what is told: a place up to B, a number of 64 bits -/
abbrev PN (B : Nat) := { x : Nat × Nat // x.1 ≤ B ∧ x.2 < 18446744073709551616 }
abbrev encs2 {B : Nat} (x : PN B) : Array Value := #[.int .i64 (x.1.1 : Int), .int .u64 (x.1.2 : Int)]
set_option maxRecDepth 100000 in
set_option maxHeartbeats 2000000 in
theorem all1_in (n : Nat) (hn : 1 ≤ n) (B : Nat) (S : Nat → Prop) (l Bs b off cap : Nat) (zs : List Nat) (hzB : zs.length ≤ B) (hz : Byt zs) (hlc : zs.length ≤ cap) (hcm : cap ≤ maxLen) (hb : S b) (hBn : S Bs) (J Jx : List (PN B) → World → Prop)
    (hY : ∀ pre x W, J pre W → pre.length < zs.length → YieldAt Fence.wide (n - 1) Try.prog l (encs2 x) W fun e W' =>
      (e = .returned (.bool true) ∧ J (pre ++ [x]) W' ∧ KeepS S W W') ∨ (e = .returned (.bool false) ∧ Jx (pre ++ [x]) W'))
    (W : World) (hBs : W.cell? ⟨Bs, 0, none⟩ = some (.slice (some ⟨b, off, none⟩) zs.length cap)) (hbW : b < W.heap.size) (hc : Row W b off zs) (h0 : J [] W) :
    CallsIn Fence.wide n Try.prog 26 #[.func (.yield l) #[] #[], .pointer (some ⟨Bs, 0, none⟩)] W fun e W' => (∃ v, e = .returned v) ∧
      ((∃ ys : List (PN B), ys.map Subtype.val = allB 0 zs ∧ J ys W') ∨ (∃ pre : List (PN B), pre.map Subtype.val <+: allB 0 zs ∧ Jx pre W')) := by
  have hmm := hcm
  unfold maxLen at hmm
  refine callsIn_of_wp Try.func26 rfl trivial ?_ rfl
  simp only [Try.ntmps26, List.size_toArray, List.length_cons, List.length_nil, Nat.reduceAdd, Nat.reduceSub, Array.replicate_succ, Array.replicate_zero, List.push_toArray, List.append_toArray, List.nil_append, List.cons_append]
  gi_wp2
  gi_loopw [3] (fun i wr => ∃ (at_ : Nat) (pre : List (PN B)), at_ ≤ zs.length ∧ i = .int .i64 (at_ : Int) ∧ allB 0 zs = pre.map Subtype.val ++ allB at_ (zs.drop at_) ∧ J pre wr ∧ KeepS S W wr) (fun i _ => zs.length - (intOf i).toNat)
  case atStart => exact ⟨0, [], by omega, rfl, rfl, h0, KeepS.refl _⟩
  case round =>
    obtain ⟨at_, pre, hat, rfl, hall, hJs, hnx⟩ := hrel
    have HALL := hd hall
    have hcb : wr.cell? ⟨Bs, 0, none⟩ = some (.slice (some ⟨b, off, none⟩) zs.length cap) := (hnx.cell (p := ⟨Bs, 0, none⟩) hBn).trans hBs
    clear hall
    by_cases hlt : at_ < zs.length
    · have hne : ¬ cap = at_ := by omega
      have hI : IsB wr (.slice (some ⟨b, off, none⟩) zs.length cap) zs := ⟨hz, by omega, .inr ⟨b, off, cap, rfl, hlc, hcm, Nat.lt_of_lt_of_le hbW hnx.size, fun k hk => (hnx.cell (p := ⟨b, off + k, none⟩) hb).trans (hc k hk)⟩⟩
      have HC := hd ((callsIn_wide (n := n - 1)).2 (decode_is _ _ wr (hI.drop at_ (by omega) (off + at_) (zs.length - at_) (cap - at_) (fun _ => rfl) rfl rfl)))
      clear hI
      have hne0 : zs.drop at_ ≠ [] := by intro e; have := congrArg List.length e; rw [List.length_drop] at this; simp at this; omega
      have hlat : (zs.drop at_).length = zs.length - at_ := List.length_drop
      obtain ⟨d1, d2, d3, hdd⟩ : ∃ d1 d2 d3, dec (zs.drop at_) = (d1, d2, d3) := ⟨_, _, _, rfl⟩
      rw [hdd] at HC
      unfold ans at HC
      by_cases he : d3 = 0
      · have hk := dec_len (l := zs.drop at_) (by rw [hdd]; exact he)
        rw [hdd] at hk
        simp only at hk
        have hok := allB_ok (at_ := at_) hne0 (by rw [hdd]; exact he)
        rw [hdd] at hok
        simp only [List.drop_drop] at hok
        have hlen2 : pre.length < zs.length := by
          have h1 := allB_len 0 zs
          rw [HALL.out, hok, List.length_append, List.length_map, List.length_cons] at h1
          omega
        have hd64 : d1 < 18446744073709551616 := by
          subst he
          exact (dec_ok (byt_drop hz at_) hdd).2.2.2.2.1
        obtain ⟨xx, hxx⟩ : ∃ xx : PN B, xx.1 = (at_, d1) := ⟨⟨(at_, d1), by show at_ ≤ B; omega, hd64⟩, rfl⟩
        obtain ⟨fn, tmps, assign, body, hy, hR⟩ := hY _ xx wr hJs hlen2
        dsimp only [encs2] at hy
        rw [hxx] at hy
        dsimp only at hy
        have HXX := hd hxx
        clear hxx
        have HOK := hd hok
        subst he
        clear hok hdd hne0 hY
        gi_wp2
        refine ⟨trivial, CallsIn.mono HC.out ?_⟩
        rintro e w' ⟨rfl, rfl⟩
        clear HC
        gi_wp2
        refine hR.mono ?_
        rintro e W3 (⟨rfl, hJ3, hk3⟩ | ⟨rfl, hJx3⟩)
        · gi_wp2
          go_roundw
          case rel => exact ⟨at_ + d2, pre ++ [xx], by omega, by go_num, by rw [HALL.out, HOK.out, List.map_append, List.append_assoc, List.map_singleton, HXX.out]; rfl, hJ3, hnx.trans hk3⟩
          case measure => simp [intOf]; omega
        · gi_wp2
          refine bodyPost_ret (results_none rfl _ _ _) rfl ?_
          exact ⟨⟨_, rfl⟩, .inr ⟨pre ++ [xx], ⟨allB (at_ + d2) (zs.drop (at_ + d2)), by rw [HALL.out, HOK.out, List.map_append, List.append_assoc, List.map_singleton, HXX.out]; rfl⟩, hJx3⟩⟩
      · have herr := allB_err (at_ := at_) (l := zs.drop at_) (by rw [hdd]; exact he)
        rw [herr, List.append_nil] at HALL
        have he2 : ((d3 : Int) != 0) = true := by simp; omega
        clear herr hdd hne0 hY
        gi_wp2
        refine ⟨trivial, CallsIn.mono HC.out ?_⟩
        rintro e w' ⟨rfl, rfl⟩
        clear HC
        gi_wp2
        refine ⟨fun _ h => (by cases h), ?_⟩
        gi_wp2
        refine bodyPost_ret (results_none rfl _ _ _) rfl ?_
        exact ⟨⟨_, rfl⟩, .inl ⟨_, HALL.out.symm, hJs⟩⟩
    · obtain rfl : at_ = zs.length := by omega
      rw [List.drop_length, allB_nil, List.append_nil] at HALL
      gi_wp2
      go_end0
      exact ⟨⟨_, rfl⟩, .inl ⟨_, HALL.out.symm, hJs⟩⟩
set_option maxRecDepth 100000 in
set_option maxHeartbeats 1000000 in
/-- .. at an empty list: no round. -/
theorem all1_nil_in {B : Nat} (n : Nat) (l Bs : Nat) (a : Option Addr) (c : Nat) (J : List (PN B) → World → Prop) (W : World) (hBs : W.cell? ⟨Bs, 0, none⟩ = some (.slice a 0 c)) (h0 : J [] W) :
    CallsIn Fence.wide n Try.prog 26 #[.func (.yield l) #[] #[], .pointer (some ⟨Bs, 0, none⟩)] W fun e W' => (∃ v, e = .returned v) ∧ J [] W' := by
  refine callsIn_of_wp Try.func26 rfl trivial ?_ rfl
  simp only [Try.ntmps26, List.size_toArray, List.length_cons, List.length_nil, Nat.reduceAdd, Nat.reduceSub, Array.replicate_succ, Array.replicate_zero, List.push_toArray, List.append_toArray, List.nil_append, List.cons_append]
  gi_wp2
  gi_loopw [3] (fun i wr => i = .int .i64 0 ∧ wr = W) (fun _ _ => 0)
  case atStart => exact ⟨rfl, rfl⟩
  case round =>
    obtain ⟨rfl, rfl⟩ := hrel
    gi_wp2
    go_end0
    exact ⟨⟨_, rfl⟩, h0⟩
/-- vint.All HANDS BACK A VALUE THAT tells all of 'allB', in order; or a beginning of it. -/
theorem all_stops (n : Nat) (hn : 1 ≤ n) (B : Nat) (S : Nat → Prop) (Bs : Nat) (sv : Value) (zs : List Nat) (w : World) (hzB : zs.length ≤ B) (hBs : S Bs) (hBl : Bs < w.heap.size)
    (hc : w.cell? ⟨Bs, 0, none⟩ = some sv) (hI : IsB w sv zs) (hlow : ∀ b off c, zs ≠ [] → sv = .slice (some ⟨b, off, none⟩) zs.length c → S b) :
    SeqStopsK Fence.wide n Try.prog 26 #[.pointer (some ⟨Bs, 0, none⟩)] (encs2 (B := B)) (KeepS S) (fun ys => ys.map Subtype.val = allB 0 zs) (fun pre => pre.map Subtype.val <+: allB 0 zs) zs.length w := fun l J Jx W hW _ _ hY h0 => by
  have hc' := (hW.cell (p := ⟨Bs, 0, none⟩) hBl).trans hc
  have hI' := hI.below hW
  obtain ⟨hz, _, ⟨rfl, a, c, rfl⟩ | ⟨b, off, c, rfl, h1, h2, h3, hr⟩⟩ := hI'
  · exact (all1_nil_in n l Bs a c J W hc' h0).mono fun e W' ⟨he, hj⟩ => ⟨he, .inl ⟨[], rfl, hj⟩⟩
  · by_cases hne : zs = []
    · subst hne
      exact (all1_nil_in n l Bs _ c J W hc' h0).mono fun e W' ⟨he, hj⟩ => ⟨he, .inl ⟨[], rfl, hj⟩⟩
    · exact all1_in n hn B S l Bs b off c zs hzB hz h1 h2 (hlow b off c hne rfl) hBs J Jx hY W hc' h3 hr h0
end Vt
end Go.Proofs.Ytdmgcblbjjggbaa
