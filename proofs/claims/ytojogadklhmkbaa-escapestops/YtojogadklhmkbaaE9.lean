/-
  WHAT escape.Each TELLS: the list 'toldB'; and the contract of its iterator: for every loop body that keeps the blocks of S.
-/
import Derived.Test.YtojogadklhmkbaaE6
import Derived.Test.YtojogadklhmkbaaK0
namespace Go.Proofs.Ytojogadklhmkbaa
open Go.RowKit Go.Shelf
namespace Vt
attribute [local go_sem] Oper.semAt_some
/-- 'escape.Each(b)': the slice is boxed; the function value captures the box. -/
theorem each_is (a : Option Addr) (len cap : Nat) (w : World) :
    Calls Try.prog 26 #[.slice a len cap] w fun e w' => e = .returned (.func (.func 39) #[] #[.pointer (some ⟨w.heap.size, 0, none⟩)]) ∧ w' = w.alloc (.cells #[.slice a len cap] 22) := by
  go_enter Try.func26, Try.ntmps26
  go_wp2
  go_ret
  exact ⟨rfl, rfl⟩
/-- what is told: a place up to B, a byte -/
abbrev PB (B : Nat) := { x : Nat × Nat // x.1 ≤ B ∧ x.2 < 256 }
abbrev encb {B : Nat} (x : PB B) : Array Value := #[.int .i64 (x.1.1 : Int), .int .u8 (x.1.2 : Int)]
set_option maxRecDepth 100000 in
set_option maxHeartbeats 2000000 in
theorem each1_in (n : Nat) (hn : 1 ≤ n) (B : Nat) (S : Nat → Prop) (l Bs b off cap : Nat) (zs : List Nat) (hzB : zs.length ≤ B) (hz : Byt zs) (hlc : zs.length ≤ cap) (hcm : cap ≤ maxLen) (hb : S b) (hBn : S Bs) (J Jx : List (PB B) → World → Prop)
    (hY : ∀ pre x W, J pre W → pre.length < zs.length → YieldAt Fence.wide (n - 1) Try.prog l (encb x) W fun e W' =>
      (e = .returned (.bool true) ∧ J (pre ++ [x]) W' ∧ KeepS S W W') ∨ (e = .returned (.bool false) ∧ Jx (pre ++ [x]) W'))
    (W : World) (hBs : W.cell? ⟨Bs, 0, none⟩ = some (.slice (some ⟨b, off, none⟩) zs.length cap)) (hc : Row W b off zs) (h0 : J [] W) :
    CallsIn Fence.wide n Try.prog 39 #[.func (.yield l) #[] #[], .pointer (some ⟨Bs, 0, none⟩)] W fun e W' => (∃ v, e = .returned v) ∧
      ((∃ ys : List (PB B), ys.map Subtype.val = toldB 0 zs ∧ J ys W') ∨ (∃ pre : List (PB B), pre.map Subtype.val <+: toldB 0 zs ∧ Jx pre W')) := by
  have hmm := hcm
  unfold maxLen at hmm
  refine callsIn_of_wp Try.func39 rfl trivial ?_ rfl
  simp only [Try.ntmps39, List.size_toArray, List.length_cons, List.length_nil, Nat.reduceAdd, Nat.reduceSub, Array.replicate_succ, Array.replicate_zero, List.push_toArray, List.append_toArray, List.nil_append, List.cons_append]
  gi_wp2
  gi_loopw [3] (fun i wr => ∃ (at_ : Nat) (pre : List (PB B)), at_ ≤ zs.length ∧ i = .int .i64 (at_ : Int) ∧ toldB 0 zs = pre.map Subtype.val ++ toldB at_ (zs.drop at_) ∧ J pre wr ∧ KeepS S W wr) (fun i _ => zs.length - (intOf i).toNat)
  case atStart => exact ⟨0, [], by omega, rfl, rfl, h0, KeepS.refl _⟩
  case round =>
    obtain ⟨at_, pre, hat, rfl, hall, hJs, hnx⟩ := hrel
    have HALL := hd hall
    have hcb : wr.cell? ⟨Bs, 0, none⟩ = some (.slice (some ⟨b, off, none⟩) zs.length cap) := (hnx.cell (p := ⟨Bs, 0, none⟩) hBn).trans hBs
    clear hall
    by_cases hlt : at_ < zs.length
    · have hne : ¬ cap = at_ := by omega
      have hlat : (zs.drop at_).length = zs.length - at_ := List.length_drop
      have hne0 : zs.drop at_ ≠ [] := by intro e; have := congrArg List.length e; rw [hlat] at this; simp at this; omega
      have HC := hd ((callsIn_wide (n := n - 1)).2 (first_is b (off + at_) (cap - at_) (zs.drop at_) wr (byt_drop hz at_) (fun k hk => by
        rw [hlat] at hk
        rw [hnx.cell (p := ⟨b, off + at_ + k, none⟩) hb, Nat.add_assoc, hc (at_ + k) (by omega), List.getD_eq_getElem?_getD, List.getD_eq_getElem?_getD, List.getElem?_drop]) hne0))
      rw [hlat] at HC
      obtain ⟨d1, d2, d3, hdd⟩ : ∃ d1 d2 d3, fs (zs.drop at_) = (d1, d2, d3) := ⟨_, _, _, rfl⟩
      rw [hdd] at HC
      unfold eans at HC
      by_cases he : d3 = 0
      · have hk := fs_len (l := zs.drop at_) hne0 (by rw [hdd]; exact he)
        rw [hdd, hlat] at hk
        simp only at hk
        have hok := toldB_ok (at_ := at_) hne0 (by rw [hdd]; exact he)
        rw [hdd] at hok
        simp only [List.drop_drop] at hok
        have hlen2 : pre.length < zs.length := by
          have h1 := toldB_len 0 zs
          rw [HALL.out, hok, List.length_append, List.length_map, List.length_cons] at h1
          omega
        have hd64 : d1 < 256 := by
          have := fs_byt (byt_drop hz at_)
          rwa [hdd] at this
        obtain ⟨xx, hxx⟩ : ∃ xx : PB B, xx.1 = (at_, d1) := ⟨⟨(at_, d1), by show at_ ≤ B; omega, hd64⟩, rfl⟩
        obtain ⟨fn, tmps, assign, body, hy, hR⟩ := hY _ xx wr hJs hlen2
        dsimp only [encb] at hy
        rw [hxx] at hy
        dsimp only at hy
        have HXX := hd hxx
        clear hxx
        have HOK := hd hok
        subst he
        clear hok hdd hne0 hY
        gi_wp2
        refine ⟨trivial, CallsIn.mono HC.out ?_⟩
        rintro e w' ⟨rfl, rfl⟩
        clear HC
        gi_wp2
        refine hR.mono ?_
        rintro e W3 (⟨rfl, hJ3, hk3⟩ | ⟨rfl, hJx3⟩)
        · gi_wp2
          go_roundw
          case rel => exact ⟨at_ + d2, pre ++ [xx], by omega, by go_num, by rw [HALL.out, HOK.out, List.map_append, List.append_assoc, List.map_singleton, HXX.out]; rfl, hJ3, hnx.trans hk3⟩
          case measure => simp [intOf]; omega
        · gi_wp2
          refine bodyPost_ret (results_none rfl _ _ _) rfl ?_
          exact ⟨⟨_, rfl⟩, .inr ⟨pre ++ [xx], ⟨toldB (at_ + d2) (zs.drop (at_ + d2)), by rw [HALL.out, HOK.out, List.map_append, List.append_assoc, List.map_singleton, HXX.out]; rfl⟩, hJx3⟩⟩
      · have herr := toldB_err (at_ := at_) (l := zs.drop at_) (by rw [hdd]; exact he)
        rw [herr, List.append_nil] at HALL
        have he2 : ((d3 : Int) != 0) = true := by simp; omega
        clear herr hdd hne0 hY
        gi_wp2
        refine ⟨trivial, CallsIn.mono HC.out ?_⟩
        rintro e w' ⟨rfl, rfl⟩
        clear HC
        gi_wp2
        refine ⟨fun _ h => (by cases h), ?_⟩
        gi_wp2
        refine bodyPost_ret (results_none rfl _ _ _) rfl ?_
        exact ⟨⟨_, rfl⟩, .inl ⟨_, HALL.out.symm, hJs⟩⟩
    · obtain rfl : at_ = zs.length := by omega
      rw [List.drop_length, toldB_nil, List.append_nil] at HALL
      gi_wp2
      go_end0
      exact ⟨⟨_, rfl⟩, .inl ⟨_, HALL.out.symm, hJs⟩⟩
set_option maxRecDepth 100000 in
set_option maxHeartbeats 1000000 in
/-- .. at an empty list: no round. -/
theorem each1_nil_in {B : Nat} (n : Nat) (l Bs : Nat) (a : Option Addr) (c : Nat) (J : List (PB B) → World → Prop) (W : World) (hBs : W.cell? ⟨Bs, 0, none⟩ = some (.slice a 0 c)) (h0 : J [] W) :
    CallsIn Fence.wide n Try.prog 39 #[.func (.yield l) #[] #[], .pointer (some ⟨Bs, 0, none⟩)] W fun e W' => (∃ v, e = .returned v) ∧ J [] W' := by
  refine callsIn_of_wp Try.func39 rfl trivial ?_ rfl
  simp only [Try.ntmps39, List.size_toArray, List.length_cons, List.length_nil, Nat.reduceAdd, Nat.reduceSub, Array.replicate_succ, Array.replicate_zero, List.push_toArray, List.append_toArray, List.nil_append, List.cons_append]
  gi_wp2
  gi_loopw [3] (fun i wr => i = .int .i64 0 ∧ wr = W) (fun _ _ => 0)
  case atStart => exact ⟨rfl, rfl⟩
  case round =>
    obtain ⟨rfl, rfl⟩ := hrel
    gi_wp2
    go_end0
    exact ⟨⟨_, rfl⟩, h0⟩
/-- escape.Each HANDS BACK A VALUE THAT tells all of 'toldB', in order; or a beginning of it. -/
theorem each_stops (n : Nat) (hn : 1 ≤ n) (B : Nat) (S : Nat → Prop) (Bs : Nat) (sv : Value) (zs : List Nat) (w : World) (hzB : zs.length ≤ B) (hBs : S Bs) (hBl : Bs < w.heap.size)
    (hc : w.cell? ⟨Bs, 0, none⟩ = some sv) (hI : IsB w sv zs) (hlow : ∀ b off c, zs ≠ [] → sv = .slice (some ⟨b, off, none⟩) zs.length c → S b) :
    SeqStopsK Fence.wide n Try.prog 39 #[.pointer (some ⟨Bs, 0, none⟩)] (encb (B := B)) (KeepS S) (fun ys => ys.map Subtype.val = toldB 0 zs) (fun pre => pre.map Subtype.val <+: toldB 0 zs) zs.length w := fun l J Jx W hW _ _ hY h0 => by
  have hc' := (hW.cell (p := ⟨Bs, 0, none⟩) hBl).trans hc
  have hI' := hI.below hW
  obtain ⟨hz, _, ⟨rfl, a, c, rfl⟩ | ⟨b, off, c, rfl, h1, h2, h3, hr⟩⟩ := hI'
  · exact (each1_nil_in n l Bs a c J W hc' h0).mono fun e W' ⟨he, hj⟩ => ⟨he, .inl ⟨[], rfl, hj⟩⟩
  · by_cases hne : zs = []
    · subst hne
      exact (each1_nil_in n l Bs _ c J W hc' h0).mono fun e W' ⟨he, hj⟩ => ⟨he, .inl ⟨[], rfl, hj⟩⟩
    · exact each1_in n hn B S l Bs b off c zs hzB hz h1 h2 (hlow b off c hne rfl) hBs J Jx hY W hc' hr h0
end Vt
end Go.Proofs.Ytojogadklhmkbaa
