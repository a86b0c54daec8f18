/-
  THE WALKS OF frame.readLength and frame.open.
-/
import Derived.Test.YtolddolfpnkndaaGreatXuar
import Derived.Test.YtolddolfpnkndaaGreatXubc
import Derived.Test.YtolddolfpnkndaaGreatXuav
import Derived.Test.YtolddolfpnkndaaGreatXuat
namespace Go.Proofs.YtolddolfpnkndaaGreat
open Go.RowKit
namespace Vt
/-- the length's digits -/
def dig (l : List Nat) : List Nat := (l.drop 1).take 3
open Classical in
/-- the length that is told, and an error -/
noncomputable def rl (l : List Nat) : Nat × Nat := if l.getD 0 0 ≠ 167 then (0, 41) else if ¬ ∀ x ∈ dig l, x < 128 then (0, 42) else if l.length < 4 ∨ l.length < nm (dig l) + 9 then (0, 43) else (nm (dig l), 0)
theorem rl_41 {l : List Nat} (h : l.getD 0 0 ≠ 167) : rl l = (0, 41) := by unfold rl; rw [if_pos h]
theorem rl_42 {l : List Nat} (h : l.getD 0 0 = 167) (h2 : ¬ ∀ x ∈ dig l, x < 128) : rl l = (0, 42) := by unfold rl; rw [if_neg (fun q => q h), if_pos h2]
theorem rl_43 {l : List Nat} (h : l.getD 0 0 = 167) (h2 : ∀ x ∈ dig l, x < 128) (h3 : l.length < 4 ∨ l.length < nm (dig l) + 9) : rl l = (0, 43) := by unfold rl; rw [if_neg (fun q => q h), if_neg (fun q => q h2), if_pos h3]
theorem rl_0 {l : List Nat} (h : l.getD 0 0 = 167) (h2 : ∀ x ∈ dig l, x < 128) (h3 : 4 ≤ l.length) (h4 : nm (dig l) + 9 ≤ l.length) : rl l = (nm (dig l), 0) := by unfold rl; rw [if_neg (fun q => q h), if_neg (fun q => q h2), if_neg (by omega)]
theorem dig_len (l : List Nat) : (dig l).length = min 3 (l.length - 1) := by unfold dig; rw [List.length_take, List.length_drop]
theorem dig_nm {l : List Nat} (h : ∀ x ∈ dig l, x < 128) : nm (dig l) < 2097152 := by
  have h1 := nm_lt h
  have h2 : (dig l).length ≤ 3 := by rw [dig_len]; omega
  have h3 : (128 : Nat) ^ (dig l).length ≤ 128 ^ 3 := Nat.pow_le_pow_right (by omega) h2
  have h4 : (128 : Nat) ^ 3 = 2097152 := by decide
  omega
set_option maxRecDepth 100000 in
set_option maxHeartbeats 1000000 in
theorem readLen_one (b off c : Nat) (l : List Nat) (w : World) (hI : IsB w (.slice (some ⟨b, off, none⟩) l.length c) l) (h1 : l.length = 1) :
    Calls Tryz.prog 65 #[.slice (some ⟨b, off, none⟩) l.length c] w fun e w' => e = .returned (.tuple #[.int .i64 ((rl l).1 : Int), .int .i64 ((rl l).2 : Int)]) ∧ w' = w := by
  have hx := hI.row 0 (by omega)
  rw [Nat.add_zero] at hx
  have hcap := hI.cap
  have hxb := getD_lt hI.1 0
  have H1 := hd h1
  rw [h1] at hcap ⊢
  clear h1
  by_cases c1 : l.getD 0 0 = 167
  · have hd0 : dig l = [] := List.length_eq_zero_iff.1 (by rw [dig_len, H1.out]; rfl)
    rw [rl_43 c1 (by rw [hd0]; intro x hx; simp at hx) (.inl (by rw [H1.out]; omega))]
    rw [c1] at hx
    clear hd0 hI c1 hxb
    have HN := hd (fun a d => number_all (.slice a 0 d) 3 [] w (isK_nil _ _ _ _ _))
    have HA : Hid (numAll [] 3 = .tuple #[.int .u64 0, .int .i64 21]) := by
      show numAll [] 3 = _
      unfold numAll; rw [if_neg (by omega), if_pos (by simp)]
    rw [HA.out] at HN
    by_cases hc : c = 1
    · subst hc
      go_enter Tryz.func65, Tryz.ntmps65
      go_wp2_with fail
      go_loop [20] (fun i => i = .int .i64 0) (fun _ => 0)
      case atStart => exact rfl
      case round =>
        subst hrel
        go_wp2_with fail
        refine Calls.mono (HN.out _ _) ?_
        rintro e w' ⟨rfl, rfl⟩
        go_wp2_with fail
        go_ret2
        exact ⟨rfl, rfl⟩
    · go_enter Tryz.func65, Tryz.ntmps65
      go_wp2_with fail
      go_loop [20] (fun i => i = .int .i64 0) (fun _ => 0)
      case atStart => exact rfl
      case round =>
        subst hrel
        go_wp2_with fail
        refine Calls.mono (HN.out _ _) ?_
        rintro e w' ⟨rfl, rfl⟩
        go_wp2_with fail
        go_ret2
        exact ⟨rfl, rfl⟩
  · rw [rl_41 c1]
    generalize l.getD 0 0 = x at *
    have q : ((x : Int) != 167) = true := by simp; omega
    clear hI
    go_enter Tryz.func65, Tryz.ntmps65
    go_wp2_with fail
    go_ret2
    exact ⟨rfl, rfl⟩
set_option maxRecDepth 100000 in
set_option maxHeartbeats 1000000 in
theorem readLen_more (b off c : Nat) (l : List Nat) (w : World) (hI : IsB w (.slice (some ⟨b, off, none⟩) l.length c) l) (h1 : 2 ≤ l.length) :
    Calls Tryz.prog 65 #[.slice (some ⟨b, off, none⟩) l.length c] w fun e w' => e = .returned (.tuple #[.int .i64 ((rl l).1 : Int), .int .i64 ((rl l).2 : Int)]) ∧ w' = w := by
  have hx := hI.row 0 (by omega)
  rw [Nat.add_zero] at hx
  have hcap := hI.cap
  have hml : l.length ≤ maxLen := hI.2.1
  have hcm : c ≤ maxLen := by
    obtain ⟨_, _, ⟨rfl, _⟩ | ⟨b', off', c', e, _, q, _⟩⟩ := hI
    · simp at h1
    · injection e with e1 e2 e3
      omega
  unfold maxLen at hml hcm
  have hxb := getD_lt hI.1 0
  by_cases c1 : l.getD 0 0 = 167
  · rw [c1] at hx hxb
    have hdl := dig_len l
    obtain ⟨m, hm⟩ : ∃ m, m = (dig l).length := ⟨_, rfl⟩
    have hm3 : m ≤ 3 := by omega
    have hm1 : m + 1 ≤ l.length := by omega
    have HD : Hid (IsB w (.slice (some ⟨b, off + 1, none⟩) m (c - 1)) (dig l)) := by
      have := (hI.drop 1 (by omega) (off + 1) (l.length - 1) (c - 1) (fun _ => rfl) rfl rfl).take m (by rw [List.length_drop]; omega)
      unfold dig
      rw [show List.take 3 (l.drop 1) = List.take m (l.drop 1) by rw [hm, hdl, List.take_eq_take_iff, List.length_drop]; omega]
      exact this
    have HN := hd (number_all _ 3 _ w HD.out)
    have hmin : min (4 : Int) (l.length : Int) = (m : Int) + 1 := by omega
    have HM := hd hm
    have HI := hd hI
    have HC1 := hd c1
    have hs3 : m < 3 ↔ l.length < 4 := by omega
    have HS3 := hd hs3
    have HDR := hd HD.out.row
    clear hI c1 hdl hs3
    generalize hdg : dig l = D at *
    have HDG := hd hdg
    clear hdg hm
    go_enter Tryz.func65, Tryz.ntmps65
    go_wp2_with fail
    go_loop [20] (fun i => ∃ k : Nat, k ≤ m ∧ i = .int .i64 (k : Int) ∧ ∀ x ∈ D.take k, x < 128) (fun i => m - (intOf i).toNat)
    case atStart => exact ⟨0, by omega, rfl, by intro x hx; simp at hx⟩
    case round =>
      obtain ⟨k, hk, rfl, he⟩ := hrel
      have HE := hd he
      clear he
      by_cases hlt : k < m
      · have hcell := HDR.out k (by rw [← HM.out]; exact hlt)
        have hyb := getD_lt HD.out.1 k
        have HT := hd (take_succ_getD (show k < D.length by rw [← HM.out]; exact hlt))
        obtain ⟨y, hy⟩ : ∃ y, y = D.getD k 0 := ⟨_, rfl⟩
        rw [← hy] at hcell hyb HT
        clear hy
        by_cases h128 : y < 128
        · have HE2 : Hid (∀ z ∈ D.take (k + 1), z < 128) := by
            show ∀ z ∈ D.take (k + 1), z < 128
            rw [HT.out]
            intro z hz
            rcases List.mem_append.1 hz with hz | hz
            · exact HE.out z hz
            · simp at hz; omega
          go_wp2_with fail
          go_round
          case rel => exact ⟨k + 1, by omega, by go_num, HE2.out⟩
          case measure => simp [intOf]; omega
        · have HR := hd (rl_42 HC1.out (by
            rw [HDG.out]
            intro hall
            refine h128 (hall y ?_)
            have : D.take (k + 1) <+: D := List.take_prefix _ _
            refine this.subset ?_
            rw [HT.out]; simp))
          go_wp2_with fail
          go_ret2
          exact ⟨by rw [HR.out]; rfl, rfl⟩
      · obtain rfl : k = m := by omega
        have HALL : Hid (∀ x ∈ D, x < 128) := by
          show ∀ x ∈ D, x < 128
          have := HE.out
          rw [HM.out, List.take_length] at this
          exact this
        clear HE
        by_cases hs : k < 3
        · have HR := hd (rl_43 HC1.out (by rw [HDG.out]; exact HALL.out) (.inl (HS3.out.1 hs)))
          have HA : Hid (numAll D 3 = .tuple #[.int .u64 0, .int .i64 21]) := by
            show numAll D 3 = _
            unfold numAll; rw [if_neg (by omega), if_pos (by rw [← HM.out]; omega)]
          rw [HA.out] at HN
          go_wp2_with fail
          refine Calls.mono HN.out ?_
          rintro e w' ⟨rfl, rfl⟩
          go_wp2_with fail
          go_ret2
          exact ⟨by rw [HR.out]; rfl, rfl⟩
        · have hnm : nm D < 2097152 := by have := dig_nm (l := l) (by rw [HDG.out]; exact HALL.out); rw [HDG.out] at this; exact this
          have HA : Hid (numAll D 3 = .tuple #[.int .u64 ((nm D : Nat) : Int), .int .i64 0]) := by
            show numAll D 3 = _
            have e3 : D.take 3 = D := List.take_of_length_le (by rw [← HM.out]; omega)
            unfold numAll; rw [if_neg (by omega), if_neg (by rw [← HM.out]; omega)]
            show numAns D 3 = _
            rw [numAns_ok (by rw [e3]; exact HALL.out), e3]
          rw [HA.out] at HN
          have h4 : 4 ≤ l.length := by have := HS3.out; omega
          by_cases hle : nm D + 9 ≤ l.length
          · have HR := hd (rl_0 HC1.out (by rw [HDG.out]; exact HALL.out) h4 (by rw [HDG.out]; exact hle))
            rw [HDG.out] at HR
            generalize nm D = N at *
            go_wp2_with fail
            refine Calls.mono HN.out ?_
            rintro e w' ⟨rfl, rfl⟩
            go_wp2_with fail
            go_ret2
            exact ⟨by rw [HR.out]; rfl, rfl⟩
          · have HR := hd (rl_43 HC1.out (by rw [HDG.out]; exact HALL.out) (.inr (by rw [HDG.out]; omega)))
            generalize nm D = N at *
            go_wp2_with fail
            refine Calls.mono HN.out ?_
            rintro e w' ⟨rfl, rfl⟩
            go_wp2_with fail
            go_ret2
            exact ⟨by rw [HR.out]; rfl, rfl⟩
  · rw [rl_41 c1]
    generalize l.getD 0 0 = x at *
    have q : ((x : Int) != 167) = true := by simp; omega
    clear hI
    go_enter Tryz.func65, Tryz.ntmps65
    go_wp2_with fail
    go_ret2
    exact ⟨rfl, rfl⟩
end Vt
end Go.Proofs.YtolddolfpnkndaaGreat
