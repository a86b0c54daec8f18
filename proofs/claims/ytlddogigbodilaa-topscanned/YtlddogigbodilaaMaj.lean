/-
  THE WALKS OF frame.readLength and frame.open.
  THE WALK OF frame.open.
  THE PLAIN MATHEMATICS OF THE SUM, proved of natural numbers and without any condition beyond those that each row bears: a state moved by one bit is linear (exclusive or), so a sum is one number moved so often; tables by one byte and by eight, joining, four bytes that make a sum, runs of turned bits.
-/
import Derived.Test.YtlddogigbodilaaMag
import Derived.Test.YtlddogigbodilaaMai
import Derived.Test.YtlddogigbodilaaMac
namespace Go.Proofs.Ytlddogigbodilaa
open Go.RowKit
namespace Vt
/-- the length's digits -/
def dig (l : List Nat) : List Nat := (l.drop 1).take 3
open Classical in
/-- the length that is told, and an error -/
noncomputable def rl (l : List Nat) : Nat × Nat := if l.getD 0 0 ≠ 167 then (0, 41) else if ¬ ∀ x ∈ dig l, x < 128 then (0, 42) else if l.length < 4 ∨ l.length < nm (dig l) + 9 then (0, 43) else (nm (dig l), 0)
theorem rl_41 {l : List Nat} (h : l.getD 0 0 ≠ 167) : rl l = (0, 41) := by unfold rl; rw [if_pos h]
theorem rl_42 {l : List Nat} (h : l.getD 0 0 = 167) (h2 : ¬ ∀ x ∈ dig l, x < 128) : rl l = (0, 42) := by unfold rl; rw [if_neg (fun q => q h), if_pos h2]
theorem rl_43 {l : List Nat} (h : l.getD 0 0 = 167) (h2 : ∀ x ∈ dig l, x < 128) (h3 : l.length < 4 ∨ l.length < nm (dig l) + 9) : rl l = (0, 43) := by unfold rl; rw [if_neg (fun q => q h), if_neg (fun q => q h2), if_pos h3]
theorem rl_0 {l : List Nat} (h : l.getD 0 0 = 167) (h2 : ∀ x ∈ dig l, x < 128) (h3 : 4 ≤ l.length) (h4 : nm (dig l) + 9 ≤ l.length) : rl l = (nm (dig l), 0) := by unfold rl; rw [if_neg (fun q => q h), if_neg (fun q => q h2), if_neg (by omega)]
theorem dig_len (l : List Nat) : (dig l).length = min 3 (l.length - 1) := by unfold dig; rw [List.length_take, List.length_drop]
theorem dig_nm {l : List Nat} (h : ∀ x ∈ dig l, x < 128) : nm (dig l) < 2097152 := by
  have h1 := nm_lt h
  have h2 : (dig l).length ≤ 3 := by rw [dig_len]; omega
  have h3 : (128 : Nat) ^ (dig l).length ≤ 128 ^ 3 := Nat.pow_le_pow_right (by omega) h2
  have h4 : (128 : Nat) ^ 3 = 2097152 := by decide
  omega
set_option maxRecDepth 100000 in
set_option maxHeartbeats 1000000 in
theorem readLen_one (b off c : Nat) (l : List Nat) (w : World) (hI : IsB w (.slice (some ⟨b, off, none⟩) l.length c) l) (h1 : l.length = 1) :
    Calls Try.prog 80 #[.slice (some ⟨b, off, none⟩) l.length c] w fun e w' => e = .returned (.tuple #[.int .i64 ((rl l).1 : Int), .int .i64 ((rl l).2 : Int)]) ∧ w' = w := by
  have hx := hI.row 0 (by omega)
  rw [Nat.add_zero] at hx
  have hcap := hI.cap
  have hxb := getD_lt hI.1 0
  have H1 := hd h1
  rw [h1] at hcap ⊢
  clear h1
  by_cases c1 : l.getD 0 0 = 167
  · have hd0 : dig l = [] := List.length_eq_zero_iff.1 (by rw [dig_len, H1.out]; rfl)
    rw [rl_43 c1 (by rw [hd0]; intro x hx; simp at hx) (.inl (by rw [H1.out]; omega))]
    rw [c1] at hx
    clear hd0 hI c1 hxb
    have HN := hd (fun a d => number_all (.slice a 0 d) 3 [] w (isK_nil _ _ _ _ _))
    have HA : Hid (numAll [] 3 = .tuple #[.int .u64 0, .int .i64 21]) := by
      show numAll [] 3 = _
      unfold numAll; rw [if_neg (by omega), if_pos (by simp)]
    rw [HA.out] at HN
    by_cases hc : c = 1
    · subst hc
      go_enter Try.func80, Try.ntmps80
      go_wp2_with fail
      go_loop [20] (fun i => i = .int .i64 0) (fun _ => 0)
      case atStart => exact rfl
      case round =>
        subst hrel
        go_wp2_with fail
        refine Calls.mono (HN.out _ _) ?_
        rintro e w' ⟨rfl, rfl⟩
        go_wp2_with fail
        go_ret2
        exact ⟨rfl, rfl⟩
    · go_enter Try.func80, Try.ntmps80
      go_wp2_with fail
      go_loop [20] (fun i => i = .int .i64 0) (fun _ => 0)
      case atStart => exact rfl
      case round =>
        subst hrel
        go_wp2_with fail
        refine Calls.mono (HN.out _ _) ?_
        rintro e w' ⟨rfl, rfl⟩
        go_wp2_with fail
        go_ret2
        exact ⟨rfl, rfl⟩
  · rw [rl_41 c1]
    generalize l.getD 0 0 = x at *
    have q : ((x : Int) != 167) = true := by simp; omega
    clear hI
    go_enter Try.func80, Try.ntmps80
    go_wp2_with fail
    go_ret2
    exact ⟨rfl, rfl⟩
set_option maxRecDepth 100000 in
set_option maxHeartbeats 1000000 in
theorem readLen_more (b off c : Nat) (l : List Nat) (w : World) (hI : IsB w (.slice (some ⟨b, off, none⟩) l.length c) l) (h1 : 2 ≤ l.length) :
    Calls Try.prog 80 #[.slice (some ⟨b, off, none⟩) l.length c] w fun e w' => e = .returned (.tuple #[.int .i64 ((rl l).1 : Int), .int .i64 ((rl l).2 : Int)]) ∧ w' = w := by
  have hx := hI.row 0 (by omega)
  rw [Nat.add_zero] at hx
  have hcap := hI.cap
  have hml : l.length ≤ maxLen := hI.2.1
  have hcm : c ≤ maxLen := by
    obtain ⟨_, _, ⟨rfl, _⟩ | ⟨b', off', c', e, _, q, _⟩⟩ := hI
    · simp at h1
    · injection e with e1 e2 e3
      omega
  unfold maxLen at hml hcm
  have hxb := getD_lt hI.1 0
  by_cases c1 : l.getD 0 0 = 167
  · rw [c1] at hx hxb
    have hdl := dig_len l
    obtain ⟨m, hm⟩ : ∃ m, m = (dig l).length := ⟨_, rfl⟩
    have hm3 : m ≤ 3 := by omega
    have hm1 : m + 1 ≤ l.length := by omega
    have HD : Hid (IsB w (.slice (some ⟨b, off + 1, none⟩) m (c - 1)) (dig l)) := by
      have := (hI.drop 1 (by omega) (off + 1) (l.length - 1) (c - 1) (fun _ => rfl) rfl rfl).take m (by rw [List.length_drop]; omega)
      unfold dig
      rw [show List.take 3 (l.drop 1) = List.take m (l.drop 1) by rw [hm, hdl, List.take_eq_take_iff, List.length_drop]; omega]
      exact this
    have HN := hd (number_all _ 3 _ w HD.out)
    have hmin : min (4 : Int) (l.length : Int) = (m : Int) + 1 := by omega
    have HM := hd hm
    have HI := hd hI
    have HC1 := hd c1
    have hs3 : m < 3 ↔ l.length < 4 := by omega
    have HS3 := hd hs3
    have HDR := hd HD.out.row
    clear hI c1 hdl hs3
    generalize hdg : dig l = D at *
    have HDG := hd hdg
    clear hdg hm
    go_enter Try.func80, Try.ntmps80
    go_wp2_with fail
    go_loop [20] (fun i => ∃ k : Nat, k ≤ m ∧ i = .int .i64 (k : Int) ∧ ∀ x ∈ D.take k, x < 128) (fun i => m - (intOf i).toNat)
    case atStart => exact ⟨0, by omega, rfl, by intro x hx; simp at hx⟩
    case round =>
      obtain ⟨k, hk, rfl, he⟩ := hrel
      have HE := hd he
      clear he
      by_cases hlt : k < m
      · have hcell := HDR.out k (by rw [← HM.out]; exact hlt)
        have hyb := getD_lt HD.out.1 k
        have HT := hd (take_succ_getD (show k < D.length by rw [← HM.out]; exact hlt))
        obtain ⟨y, hy⟩ : ∃ y, y = D.getD k 0 := ⟨_, rfl⟩
        rw [← hy] at hcell hyb HT
        clear hy
        by_cases h128 : y < 128
        · have HE2 : Hid (∀ z ∈ D.take (k + 1), z < 128) := by
            show ∀ z ∈ D.take (k + 1), z < 128
            rw [HT.out]
            intro z hz
            rcases List.mem_append.1 hz with hz | hz
            · exact HE.out z hz
            · simp at hz; omega
          go_wp2_with fail
          go_round
          case rel => exact ⟨k + 1, by omega, by go_num, HE2.out⟩
          case measure => simp [intOf]; omega
        · have HR := hd (rl_42 HC1.out (by
            rw [HDG.out]
            intro hall
            refine h128 (hall y ?_)
            have : D.take (k + 1) <+: D := List.take_prefix _ _
            refine this.subset ?_
            rw [HT.out]; simp))
          go_wp2_with fail
          go_ret2
          exact ⟨by rw [HR.out]; rfl, rfl⟩
      · obtain rfl : k = m := by omega
        have HALL : Hid (∀ x ∈ D, x < 128) := by
          show ∀ x ∈ D, x < 128
          have := HE.out
          rw [HM.out, List.take_length] at this
          exact this
        clear HE
        by_cases hs : k < 3
        · have HR := hd (rl_43 HC1.out (by rw [HDG.out]; exact HALL.out) (.inl (HS3.out.1 hs)))
          have HA : Hid (numAll D 3 = .tuple #[.int .u64 0, .int .i64 21]) := by
            show numAll D 3 = _
            unfold numAll; rw [if_neg (by omega), if_pos (by rw [← HM.out]; omega)]
          rw [HA.out] at HN
          go_wp2_with fail
          refine Calls.mono HN.out ?_
          rintro e w' ⟨rfl, rfl⟩
          go_wp2_with fail
          go_ret2
          exact ⟨by rw [HR.out]; rfl, rfl⟩
        · have hnm : nm D < 2097152 := by have := dig_nm (l := l) (by rw [HDG.out]; exact HALL.out); rw [HDG.out] at this; exact this
          have HA : Hid (numAll D 3 = .tuple #[.int .u64 ((nm D : Nat) : Int), .int .i64 0]) := by
            show numAll D 3 = _
            have e3 : D.take 3 = D := List.take_of_length_le (by rw [← HM.out]; omega)
            unfold numAll; rw [if_neg (by omega), if_neg (by rw [← HM.out]; omega)]
            show numAns D 3 = _
            rw [numAns_ok (by rw [e3]; exact HALL.out), e3]
          rw [HA.out] at HN
          have h4 : 4 ≤ l.length := by have := HS3.out; omega
          by_cases hle : nm D + 9 ≤ l.length
          · have HR := hd (rl_0 HC1.out (by rw [HDG.out]; exact HALL.out) h4 (by rw [HDG.out]; exact hle))
            rw [HDG.out] at HR
            generalize nm D = N at *
            go_wp2_with fail
            refine Calls.mono HN.out ?_
            rintro e w' ⟨rfl, rfl⟩
            go_wp2_with fail
            go_ret2
            exact ⟨by rw [HR.out]; rfl, rfl⟩
          · have HR := hd (rl_43 HC1.out (by rw [HDG.out]; exact HALL.out) (.inr (by rw [HDG.out]; omega)))
            generalize nm D = N at *
            go_wp2_with fail
            refine Calls.mono HN.out ?_
            rintro e w' ⟨rfl, rfl⟩
            go_wp2_with fail
            go_ret2
            exact ⟨by rw [HR.out]; rfl, rfl⟩
  · rw [rl_41 c1]
    generalize l.getD 0 0 = x at *
    have q : ((x : Int) != 167) = true := by simp; omega
    clear hI
    go_enter Try.func80, Try.ntmps80
    go_wp2_with fail
    go_ret2
    exact ⟨rfl, rfl⟩
end Vt
end Go.Proofs.Ytlddogigbodilaa
namespace Go.Proofs.Ytlddogigbodilaa
open Go.RowKit
namespace Vt
theorem results_cell2 {P : Program} {fn : Func} {p q : Tmp} {ty : TypeId} (h : fn.results = #[.cell p ty, .tmp q]) (tmps : Array Value) (w : World) (g : Nat) (t : TypeId) (cs : Array Value) (fr : Nat × Nat) (d : TypeDesc)
    (hp : tmps.getD p undef = .pointer (some ⟨g, 0, none⟩)) (hg : w.heap[g]? = some (.cells cs t fr))
    (hu : P.underlying ty = some d) (hd : (match d with | .struct _ | .array _ _ => true | _ => false) = true) (hi : (P.info? ty).map (·.size) = some cs.size) :
    (results fn tmps).run P w = .ok (.tuple #[.agg cs, tmps.getD q undef]) w := by
  have hp' : tmps[p]?.getD undef = .pointer (some ⟨g, 0, none⟩) := by simpa using hp
  simp [results, h, hp', asAddr, run_loadVar_row w g t ty cs fr d hg hu hd hi]
theorem results_cell3 {P : Program} {fn : Func} {p q r : Tmp} {ty : TypeId} (h : fn.results = #[.cell p ty, .tmp q, .tmp r]) (tmps : Array Value) (w : World) (g : Nat) (t : TypeId) (cs : Array Value) (fr : Nat × Nat) (d : TypeDesc)
    (hp : tmps.getD p undef = .pointer (some ⟨g, 0, none⟩)) (hg : w.heap[g]? = some (.cells cs t fr))
    (hu : P.underlying ty = some d) (hd : (match d with | .struct _ | .array _ _ => true | _ => false) = true) (hi : (P.info? ty).map (·.size) = some cs.size) :
    (results fn tmps).run P w = .ok (.tuple #[.agg cs, tmps.getD q undef, tmps.getD r undef]) w := by
  have hp' : tmps[p]?.getD undef = .pointer (some ⟨g, 0, none⟩) := by simpa using hp
  simp [results, h, hp', asAddr, run_loadVar_row w g t ty cs fr d hg hu hd hi]
open Classical in
/-- the frame that an escaped body is of -/
noncomputable def opF (l : List Nat) : Option Fr := if (badB 0 l).1 = 0 ∧ (prs (plain l, false)).2 = ([], false) ∧ rf (prs (plain l, false)).1 = 0 then some (prs (plain l, false)).1 else none
theorem opF_yes {l : List Nat} (h1 : (badB 0 l).1 = 0) (h2 : (prs (plain l, false)).2 = ([], false)) (h3 : rf (prs (plain l, false)).1 = 0) : opF l = some (prs (plain l, false)).1 := by unfold opF; rw [if_pos ⟨h1, h2, h3⟩]
theorem opF_no {l : List Nat} (h : ¬ ((badB 0 l).1 = 0 ∧ (prs (plain l, false)).2 = ([], false) ∧ rf (prs (plain l, false)).1 = 0)) : opF l = none := by unfold opF; rw [if_neg h]
noncomputable def opV (l : List Nat) : Value := match opF l with | some f => .tuple #[.agg (fv f), .bool true] | none => .tuple #[.agg (fv zf), .bool false]
theorem opV_no {l : List Nat} (h : opF l = none) : opV l = .tuple #[.agg #[.int .i64 0, .int .u64 0, .int .i64 0, .string ⟨#[]⟩, .string ⟨#[]⟩, .int .u64 0, .int .i64 0, .int .i64 0, .int .i64 0, .string ⟨#[]⟩, .int .i64 0, .int .i64 0, .int .i64 0, .int .u32 0], .bool false] := by unfold opV; rw [h]; rfl
theorem JB.low {w : World} {base : Nat} {v : Value} {l : List Nat} (h : JB w base v l) : Low v w.heap.size := by
  intro a n c e
  rcases h.2.2 with ⟨rfl, _⟩ | ⟨g, cap, cur, rfl, _, hg, _⟩
  · cases e
  · injection e with e1
    injection e1 with e1
    subst e1
    exact ⟨(Array.getElem?_eq_some_iff.1 hg).1, rfl⟩
set_option maxRecDepth 100000 in
set_option maxHeartbeats 2000000 in
theorem open_bad (v : Value) (l : List Nat) (w : World) (hI : IsB w v l) (hm : l.length ≤ 281474976710656) (hb : (badB 0 l).1 ≠ 0) :
    Calls Try.prog 82 #[v] w fun e w' => e = .returned (opV l) ∧ Below w.heap.size w w' := by
  rw [opV_no (opF_no (fun q => hb q.1))]
  have HA0 : Hid (Blk (w.alloc (.cells #[.int .i64 0, .int .u64 0, .int .i64 0, .string ⟨#[]⟩, .string ⟨#[]⟩, .int .u64 0, .int .i64 0, .int .i64 0, .int .i64 0, .string ⟨#[]⟩, .int .i64 0, .int .i64 0, .int .i64 0, .int .u32 0] 41)) w.heap.size 41 [.int .i64 0, .int .u64 0, .int .i64 0, .string ⟨#[]⟩, .string ⟨#[]⟩, .int .u64 0, .int .i64 0, .int .i64 0, .int .i64 0, .string ⟨#[]⟩, .int .i64 0, .int .i64 0, .int .i64 0, .int .u32 0]) := Blk.new w _ _
  have HC := hd (open_is v l _ (hI.below ((Below.refl _ _).alloc (Nat.le_refl _) (.cells #[.int .i64 0, .int .u64 0, .int .i64 0, .string ⟨#[]⟩, .string ⟨#[]⟩, .int .u64 0, .int .i64 0, .int .i64 0, .int .i64 0, .string ⟨#[]⟩, .int .i64 0, .int .i64 0, .int .i64 0, .int .u32 0] 41))) hm)
  unfold OpenPost at HC
  generalize badB 0 l = bb at *
  obtain ⟨b1, b2⟩ := bb
  simp only at *
  have hq : (((b1 : Nat) : Int) != 0) = true := by simp; omega
  clear hI hb
  go_enter Try.func82, Try.ntmps82
  go_wp2_with fail
  refine Calls.mono HC.out ?_
  rintro e w1 ⟨u, rfl, hj, hb⟩
  have HA1 := hd (HA0.out.keep hb)
  have HB1 := hd (below_alloc1 hb)
  clear hj hb HC HA0
  have a0 := HA1.out.cell 0 _ rfl
  have az0 := HA1.out.frozen 0
  have a1 := HA1.out.cell 1 _ rfl
  have az1 := HA1.out.frozen 1
  have a2 := HA1.out.cell 2 _ rfl
  have az2 := HA1.out.frozen 2
  have a3 := HA1.out.cell 3 _ rfl
  have az3 := HA1.out.frozen 3
  have a4 := HA1.out.cell 4 _ rfl
  have az4 := HA1.out.frozen 4
  have a5 := HA1.out.cell 5 _ rfl
  have az5 := HA1.out.frozen 5
  have a6 := HA1.out.cell 6 _ rfl
  have az6 := HA1.out.frozen 6
  have a7 := HA1.out.cell 7 _ rfl
  have az7 := HA1.out.frozen 7
  have a8 := HA1.out.cell 8 _ rfl
  have az8 := HA1.out.frozen 8
  have a9 := HA1.out.cell 9 _ rfl
  have az9 := HA1.out.frozen 9
  have a10 := HA1.out.cell 10 _ rfl
  have az10 := HA1.out.frozen 10
  have a11 := HA1.out.cell 11 _ rfl
  have az11 := HA1.out.frozen 11
  have a12 := HA1.out.cell 12 _ rfl
  have az12 := HA1.out.frozen 12
  have a13 := HA1.out.cell 13 _ rfl
  have az13 := HA1.out.frozen 13
  go_wp2_with fail
  have HF : Hid (Blk (setL w1 w.heap.size 0 [.int .i64 0, .int .u64 0, .int .i64 0, .string ⟨#[]⟩, .string ⟨#[]⟩, .int .u64 0, .int .i64 0, .int .i64 0, .int .i64 0, .string ⟨#[]⟩, .int .i64 0, .int .i64 0, .int .i64 0, .int .u32 0]) w.heap.size 41 [.int .i64 0, .int .u64 0, .int .i64 0, .string ⟨#[]⟩, .string ⟨#[]⟩, .int .u64 0, .int .i64 0, .int .i64 0, .int .i64 0, .string ⟨#[]⟩, .int .i64 0, .int .i64 0, .int .i64 0, .int .u32 0]) := setL_blk [.int .i64 0, .int .u64 0, .int .i64 0, .string ⟨#[]⟩, .string ⟨#[]⟩, .int .u64 0, .int .i64 0, .int .i64 0, .int .i64 0, .string ⟨#[]⟩, .int .i64 0, .int .i64 0, .int .i64 0, .int .u32 0] _ 0 [] [.int .i64 0, .int .u64 0, .int .i64 0, .string ⟨#[]⟩, .string ⟨#[]⟩, .int .u64 0, .int .i64 0, .int .i64 0, .int .i64 0, .string ⟨#[]⟩, .int .i64 0, .int .i64 0, .int .i64 0, .int .u32 0] rfl rfl HA1.out
  refine bodyPost_ret (results_cell2 rfl _ _ w.heap.size 41 #[.int .i64 0, .int .u64 0, .int .i64 0, .string ⟨#[]⟩, .string ⟨#[]⟩, .int .u64 0, .int .i64 0, .int .i64 0, .int .i64 0, .string ⟨#[]⟩, .int .i64 0, .int .i64 0, .int .i64 0, .int .u32 0] (0, 0) _ rfl HF.out Try.underlying41 rfl (by kernel_rfl)) rfl ?_
  exact ⟨rfl, (setL_keepO (B := w.heap.size) (O := w.heap.size) [.int .i64 0, .int .u64 0, .int .i64 0, .string ⟨#[]⟩, .string ⟨#[]⟩, .int .u64 0, .int .i64 0, .int .i64 0, .int .i64 0, .string ⟨#[]⟩, .int .i64 0, .int .i64 0, .int .i64 0, .int .u32 0] _ w 0 (Nat.le_refl _) (KeepO.of_below HB1.out)).below (Nat.le_refl _) (Nat.le_refl _)⟩
set_option maxRecDepth 100000 in
set_option maxHeartbeats 1600000 in
theorem open_fine (v : Value) (l : List Nat) (w : World) (hI : IsB w v l) (hm : l.length ≤ 281474976710656) (hb : (badB 0 l).1 = 0) :
    Calls Try.prog 82 #[v] w fun e w' => e = .returned (opV l) ∧ Below w.heap.size w w' := by
  have HA0 : Hid (Blk (w.alloc (.cells #[.int .i64 0, .int .u64 0, .int .i64 0, .string ⟨#[]⟩, .string ⟨#[]⟩, .int .u64 0, .int .i64 0, .int .i64 0, .int .i64 0, .string ⟨#[]⟩, .int .i64 0, .int .i64 0, .int .i64 0, .int .u32 0] 41)) w.heap.size 41 [.int .i64 0, .int .u64 0, .int .i64 0, .string ⟨#[]⟩, .string ⟨#[]⟩, .int .u64 0, .int .i64 0, .int .i64 0, .int .i64 0, .string ⟨#[]⟩, .int .i64 0, .int .i64 0, .int .i64 0, .int .u32 0]) := Blk.new w _ _
  have HC := hd (open_is v l _ (hI.below ((Below.refl _ _).alloc (Nat.le_refl _) (.cells #[.int .i64 0, .int .u64 0, .int .i64 0, .string ⟨#[]⟩, .string ⟨#[]⟩, .int .u64 0, .int .i64 0, .int .i64 0, .int .i64 0, .string ⟨#[]⟩, .int .i64 0, .int .i64 0, .int .i64 0, .int .u32 0] 41))) hm)
  unfold OpenPost opn at HC
  rw [if_pos hb, badB_zero hb] at HC
  have HOY := hd (fun h2 h3 => opF_yes (l := l) hb h2 h3)
  have HON := hd (fun h => opF_no (l := l) h)
  obtain ⟨⟨k, ⟨rl, rk, rkey, rval⟩, ⟨pl, pk, pa, pn, pkey⟩, ⟨ec, eb, ef, es⟩⟩, ⟨left, br⟩, hp⟩ : ∃ F sr, prs (plain l, false) = (F, sr) := ⟨_, _, rfl⟩
  rw [hp] at HOY HON
  simp only at HC HOY HON
  have HFR := hd (fun B w h => frame_is B (plain l, false) w h)
  rw [hp] at HFR
  simp only [fv] at HFR
  have HRF := hd (refusal_is ⟨k, ⟨rl, rk, rkey, rval⟩, ⟨pl, pk, pa, pn, pkey⟩, ⟨ec, eb, ef, es⟩⟩)
  simp only [fv] at HRF
  have HV : Hid (opF l = some ⟨k, ⟨rl, rk, rkey, rval⟩, ⟨pl, pk, pa, pn, pkey⟩, ⟨ec, eb, ef, es⟩⟩ → opV l = .tuple #[.agg #[.int .i64 k, .int .u64 (rl : Int), .int .i64 rk, .string rkey, .string rval, .int .u64 (pl : Int), .int .i64 pk, .int .i64 pa, .int .i64 pn, .string pkey, .int .i64 ec, .int .i64 eb, .int .i64 ef, .int .u32 (es : Int)], .bool true]) := by
    intro q; unfold opV; rw [q]; rfl
  clear hI hb hp
  generalize hrf : rf ⟨k, ⟨rl, rk, rkey, rval⟩, ⟨pl, pk, pa, pn, pkey⟩, ⟨ec, eb, ef, es⟩⟩ = code at *
  clear hrf
  go_enter Try.func82, Try.ntmps82
  go_wp2_with fail
  refine Calls.mono HC.out ?_
  rintro e w1 ⟨u, rfl, hj, hb⟩
  obtain ⟨ua, uc, rfl, _⟩ := hj.shape
  obtain ⟨un, hun⟩ : ∃ n, n = (plain l).length := ⟨_, rfl⟩
  rw [← hun] at hj ⊢
  clear hun
  have HB1 := hd (below_alloc1 hb)
  have HR1 : Hid (RDs (w1.alloc (.cells #[.slice ua un uc, .bool false] 155)) w1.heap.size (plain l, false)) := ⟨.slice ua un uc, Blk.new w1 _ [.slice ua un uc, .bool false], hj.isB.below ((Below.refl _ _).alloc (Nat.le_refl _) _), hj.low⟩
  have HA1 := hd ((HA0.out.keep hb).alloc (.cells #[.slice ua un uc, .bool false] 155))
  have hs1 := hb.size
  rw [World.size_alloc] at hs1
  have n1 : w.heap.size ≠ w1.heap.size := by omega
  have HB1a : Hid (Below w.heap.size w (w1.alloc (.cells #[.slice ua un uc, .bool false] 155))) := HB1.out.alloc (by omega) _
  clear hj hb HC HA0 HB1
  go_wp2_with fail
  refine Calls.mono (HFR.out _ _ HR1.out) ?_
  rintro e w2 ⟨rfl, hr, hk⟩
  obtain ⟨v2, g1, g2, g3⟩ := hr
  obtain ⟨a2, cc2, rfl⟩ := g2.shape
  have HX2 := hd g1
  have HA2 := hd (HA1.out.keepO n1 hk)
  have HB2 : Hid (Below w.heap.size w w2) := HB1a.out.trans (hk.below (by omega) HB1a.out.size)
  have hs2 := hk.size
  rw [World.size_alloc] at hs2
  clear g1 g2 g3 hk HA1 HB1a HR1 HFR
  have x0 := HX2.out.cell 0 _ rfl
  have x1 := HX2.out.cell 1 _ rfl
  simp only at x0 x1
  have n2 : w1.heap.size < w2.heap.size := by omega
  have n3 : ¬ w1.heap.size = w2.heap.size := by omega
  have n4 : ¬ w2.heap.size = w1.heap.size := by omega
  have n5 : w.heap.size < w2.heap.size := by omega
  have n6 : ¬ w.heap.size = w2.heap.size := by omega
  have n7 : ¬ w2.heap.size = w.heap.size := by omega
  have HA3 : Hid (Blk (w2.alloc (.cells #[.int .i64 k, .int .u64 (rl : Int), .int .i64 rk, .string rkey, .string rval, .int .u64 (pl : Int), .int .i64 pk, .int .i64 pa, .int .i64 pn, .string pkey, .int .i64 ec, .int .i64 eb, .int .i64 ef, .int .u32 (es : Int)] 41)) w.heap.size 41 [.int .i64 0, .int .u64 0, .int .i64 0, .string ⟨#[]⟩, .string ⟨#[]⟩, .int .u64 0, .int .i64 0, .int .i64 0, .int .i64 0, .string ⟨#[]⟩, .int .i64 0, .int .i64 0, .int .i64 0, .int .u32 0]) := HA2.out.alloc _
  have HB3 : Hid (Below w.heap.size w (w2.alloc (.cells #[.int .i64 k, .int .u64 (rl : Int), .int .i64 rk, .string rkey, .string rval, .int .u64 (pl : Int), .int .i64 pk, .int .i64 pa, .int .i64 pn, .string pkey, .int .i64 ec, .int .i64 eb, .int .i64 ef, .int .u32 (es : Int)] 41))) := HB2.out.alloc HB2.out.size _
  clear HX2
  have HQ : Hid (br = true ∨ (br = false ∧ 0 < left.length) ∨ (br = false ∧ left = [])) := by
    show br = true ∨ _
    cases br
    · rcases Nat.eq_zero_or_pos left.length with h | h
      · exact .inr (.inr ⟨rfl, List.length_eq_zero_iff.1 h⟩)
      · exact .inr (.inl ⟨rfl, h⟩)
    · exact .inl rfl
  rcases HQ.out with rfl | ⟨rfl, hl⟩ | ⟨rfl, rfl⟩
  · have HOV := hd (opV_no (HON.out (by simp)))
    have a0 := HA2.out.cell 0 _ rfl
    have az0 := HA2.out.frozen 0
    have a1 := HA2.out.cell 1 _ rfl
    have az1 := HA2.out.frozen 1
    have a2 := HA2.out.cell 2 _ rfl
    have az2 := HA2.out.frozen 2
    have a3 := HA2.out.cell 3 _ rfl
    have az3 := HA2.out.frozen 3
    have a4 := HA2.out.cell 4 _ rfl
    have az4 := HA2.out.frozen 4
    have a5 := HA2.out.cell 5 _ rfl
    have az5 := HA2.out.frozen 5
    have a6 := HA2.out.cell 6 _ rfl
    have az6 := HA2.out.frozen 6
    have a7 := HA2.out.cell 7 _ rfl
    have az7 := HA2.out.frozen 7
    have a8 := HA2.out.cell 8 _ rfl
    have az8 := HA2.out.frozen 8
    have a9 := HA2.out.cell 9 _ rfl
    have az9 := HA2.out.frozen 9
    have a10 := HA2.out.cell 10 _ rfl
    have az10 := HA2.out.frozen 10
    have a11 := HA2.out.cell 11 _ rfl
    have az11 := HA2.out.frozen 11
    have a12 := HA2.out.cell 12 _ rfl
    have az12 := HA2.out.frozen 12
    have a13 := HA2.out.cell 13 _ rfl
    have az13 := HA2.out.frozen 13
    clear HQ HRF HV HOY HON
    go_wp2_with fail
    have HF : Hid (Blk ((setL w2 w.heap.size 0 [.int .i64 0, .int .u64 0, .int .i64 0, .string ⟨#[]⟩, .string ⟨#[]⟩, .int .u64 0, .int .i64 0, .int .i64 0, .int .i64 0, .string ⟨#[]⟩, .int .i64 0, .int .i64 0, .int .i64 0, .int .u32 0]).alloc (.cells #[.int .i64 k, .int .u64 (rl : Int), .int .i64 rk, .string rkey, .string rval, .int .u64 (pl : Int), .int .i64 pk, .int .i64 pa, .int .i64 pn, .string pkey, .int .i64 ec, .int .i64 eb, .int .i64 ef, .int .u32 (es : Int)] 41)) w.heap.size 41 [.int .i64 0, .int .u64 0, .int .i64 0, .string ⟨#[]⟩, .string ⟨#[]⟩, .int .u64 0, .int .i64 0, .int .i64 0, .int .i64 0, .string ⟨#[]⟩, .int .i64 0, .int .i64 0, .int .i64 0, .int .u32 0]) := (setL_blk [.int .i64 0, .int .u64 0, .int .i64 0, .string ⟨#[]⟩, .string ⟨#[]⟩, .int .u64 0, .int .i64 0, .int .i64 0, .int .i64 0, .string ⟨#[]⟩, .int .i64 0, .int .i64 0, .int .i64 0, .int .u32 0] _ 0 [] [.int .i64 0, .int .u64 0, .int .i64 0, .string ⟨#[]⟩, .string ⟨#[]⟩, .int .u64 0, .int .i64 0, .int .i64 0, .int .i64 0, .string ⟨#[]⟩, .int .i64 0, .int .i64 0, .int .i64 0, .int .u32 0] rfl rfl HA2.out).alloc _
    refine bodyPost_ret (results_cell2 rfl _ _ w.heap.size 41 #[.int .i64 0, .int .u64 0, .int .i64 0, .string ⟨#[]⟩, .string ⟨#[]⟩, .int .u64 0, .int .i64 0, .int .i64 0, .int .i64 0, .string ⟨#[]⟩, .int .i64 0, .int .i64 0, .int .i64 0, .int .u32 0] (0, 0) _ rfl HF.out Try.underlying41 rfl (by kernel_rfl)) rfl ?_
    exact ⟨by rw [HOV.out]; rfl, ((setL_keepO (B := w.heap.size) (O := w.heap.size) [.int .i64 0, .int .u64 0, .int .i64 0, .string ⟨#[]⟩, .string ⟨#[]⟩, .int .u64 0, .int .i64 0, .int .i64 0, .int .i64 0, .string ⟨#[]⟩, .int .i64 0, .int .i64 0, .int .i64 0, .int .u32 0] _ w 0 (Nat.le_refl _) (KeepO.of_below HB2.out)).trans (KeepO.alloc _ _ _)).below (Nat.le_refl _) (Nat.le_refl _)⟩
  · have HOV := hd (opV_no (HON.out (by rintro ⟨_, q, _⟩; injection q with q; rw [q] at hl; simp at hl)))
    have a0 := HA2.out.cell 0 _ rfl
    have az0 := HA2.out.frozen 0
    have a1 := HA2.out.cell 1 _ rfl
    have az1 := HA2.out.frozen 1
    have a2 := HA2.out.cell 2 _ rfl
    have az2 := HA2.out.frozen 2
    have a3 := HA2.out.cell 3 _ rfl
    have az3 := HA2.out.frozen 3
    have a4 := HA2.out.cell 4 _ rfl
    have az4 := HA2.out.frozen 4
    have a5 := HA2.out.cell 5 _ rfl
    have az5 := HA2.out.frozen 5
    have a6 := HA2.out.cell 6 _ rfl
    have az6 := HA2.out.frozen 6
    have a7 := HA2.out.cell 7 _ rfl
    have az7 := HA2.out.frozen 7
    have a8 := HA2.out.cell 8 _ rfl
    have az8 := HA2.out.frozen 8
    have a9 := HA2.out.cell 9 _ rfl
    have az9 := HA2.out.frozen 9
    have a10 := HA2.out.cell 10 _ rfl
    have az10 := HA2.out.frozen 10
    have a11 := HA2.out.cell 11 _ rfl
    have az11 := HA2.out.frozen 11
    have a12 := HA2.out.cell 12 _ rfl
    have az12 := HA2.out.frozen 12
    have a13 := HA2.out.cell 13 _ rfl
    have az13 := HA2.out.frozen 13
    clear HQ HRF HV HOY HON
    go_wp2_with fail
    have HF : Hid (Blk ((setL w2 w.heap.size 0 [.int .i64 0, .int .u64 0, .int .i64 0, .string ⟨#[]⟩, .string ⟨#[]⟩, .int .u64 0, .int .i64 0, .int .i64 0, .int .i64 0, .string ⟨#[]⟩, .int .i64 0, .int .i64 0, .int .i64 0, .int .u32 0]).alloc (.cells #[.int .i64 k, .int .u64 (rl : Int), .int .i64 rk, .string rkey, .string rval, .int .u64 (pl : Int), .int .i64 pk, .int .i64 pa, .int .i64 pn, .string pkey, .int .i64 ec, .int .i64 eb, .int .i64 ef, .int .u32 (es : Int)] 41)) w.heap.size 41 [.int .i64 0, .int .u64 0, .int .i64 0, .string ⟨#[]⟩, .string ⟨#[]⟩, .int .u64 0, .int .i64 0, .int .i64 0, .int .i64 0, .string ⟨#[]⟩, .int .i64 0, .int .i64 0, .int .i64 0, .int .u32 0]) := (setL_blk [.int .i64 0, .int .u64 0, .int .i64 0, .string ⟨#[]⟩, .string ⟨#[]⟩, .int .u64 0, .int .i64 0, .int .i64 0, .int .i64 0, .string ⟨#[]⟩, .int .i64 0, .int .i64 0, .int .i64 0, .int .u32 0] _ 0 [] [.int .i64 0, .int .u64 0, .int .i64 0, .string ⟨#[]⟩, .string ⟨#[]⟩, .int .u64 0, .int .i64 0, .int .i64 0, .int .i64 0, .string ⟨#[]⟩, .int .i64 0, .int .i64 0, .int .i64 0, .int .u32 0] rfl rfl HA2.out).alloc _
    refine bodyPost_ret (results_cell2 rfl _ _ w.heap.size 41 #[.int .i64 0, .int .u64 0, .int .i64 0, .string ⟨#[]⟩, .string ⟨#[]⟩, .int .u64 0, .int .i64 0, .int .i64 0, .int .i64 0, .string ⟨#[]⟩, .int .i64 0, .int .i64 0, .int .i64 0, .int .u32 0] (0, 0) _ rfl HF.out Try.underlying41 rfl (by kernel_rfl)) rfl ?_
    exact ⟨by rw [HOV.out]; rfl, ((setL_keepO (B := w.heap.size) (O := w.heap.size) [.int .i64 0, .int .u64 0, .int .i64 0, .string ⟨#[]⟩, .string ⟨#[]⟩, .int .u64 0, .int .i64 0, .int .i64 0, .int .i64 0, .string ⟨#[]⟩, .int .i64 0, .int .i64 0, .int .i64 0, .int .u32 0] _ w 0 (Nat.le_refl _) (KeepO.of_below HB2.out)).trans (KeepO.alloc _ _ _)).below (Nat.le_refl _) (Nat.le_refl _)⟩
  · by_cases hc : code = 0
    · subst hc
      have HOV := hd (HV.out (HOY.out rfl rfl))
      clear HQ HV HOY HON
      simp only [List.length_nil] at x0
      have HF3 : Hid (Blk (w2.alloc (.cells #[.int .i64 k, .int .u64 (rl : Int), .int .i64 rk, .string rkey, .string rval, .int .u64 (pl : Int), .int .i64 pk, .int .i64 pa, .int .i64 pn, .string pkey, .int .i64 ec, .int .i64 eb, .int .i64 ef, .int .u32 (es : Int)] 41)) w2.heap.size 41 [.int .i64 k, .int .u64 (rl : Int), .int .i64 rk, .string rkey, .string rval, .int .u64 (pl : Int), .int .i64 pk, .int .i64 pa, .int .i64 pn, .string pkey, .int .i64 ec, .int .i64 eb, .int .i64 ef, .int .u32 (es : Int)]) := Blk.new w2 _ _
      go_wp2_with fail
      refine Calls.mono (HRF.out _) ?_
      rintro e w4 ⟨rfl, hb⟩
      have HF4 := hd (HF3.out.keep hb)
      have HA4 := hd (HA3.out.keep hb)
      have HB4 : Hid (Below w.heap.size w w4) := HB3.out.trans (hb.mono HB3.out.size)
      clear hb HF3 HA3 HA2 HB3 HB2 HRF
      have a0 := HA4.out.cell 0 _ rfl
      have az0 := HA4.out.frozen 0
      have a1 := HA4.out.cell 1 _ rfl
      have az1 := HA4.out.frozen 1
      have a2 := HA4.out.cell 2 _ rfl
      have az2 := HA4.out.frozen 2
      have a3 := HA4.out.cell 3 _ rfl
      have az3 := HA4.out.frozen 3
      have a4 := HA4.out.cell 4 _ rfl
      have az4 := HA4.out.frozen 4
      have a5 := HA4.out.cell 5 _ rfl
      have az5 := HA4.out.frozen 5
      have a6 := HA4.out.cell 6 _ rfl
      have az6 := HA4.out.frozen 6
      have a7 := HA4.out.cell 7 _ rfl
      have az7 := HA4.out.frozen 7
      have a8 := HA4.out.cell 8 _ rfl
      have az8 := HA4.out.frozen 8
      have a9 := HA4.out.cell 9 _ rfl
      have az9 := HA4.out.frozen 9
      have a10 := HA4.out.cell 10 _ rfl
      have az10 := HA4.out.frozen 10
      have a11 := HA4.out.cell 11 _ rfl
      have az11 := HA4.out.frozen 11
      have a12 := HA4.out.cell 12 _ rfl
      have az12 := HA4.out.frozen 12
      have a13 := HA4.out.cell 13 _ rfl
      have az13 := HA4.out.frozen 13
      have f0 := HF4.out.cell 0 _ rfl
      have f1 := HF4.out.cell 1 _ rfl
      have f2 := HF4.out.cell 2 _ rfl
      have f3 := HF4.out.cell 3 _ rfl
      have f4 := HF4.out.cell 4 _ rfl
      have f5 := HF4.out.cell 5 _ rfl
      have f6 := HF4.out.cell 6 _ rfl
      have f7 := HF4.out.cell 7 _ rfl
      have f8 := HF4.out.cell 8 _ rfl
      have f9 := HF4.out.cell 9 _ rfl
      have f10 := HF4.out.cell 10 _ rfl
      have f11 := HF4.out.cell 11 _ rfl
      have f12 := HF4.out.cell 12 _ rfl
      have f13 := HF4.out.cell 13 _ rfl
      go_wp2_with fail
      have HF : Hid (Blk (setL w4 w.heap.size 0 [.int .i64 k, .int .u64 (rl : Int), .int .i64 rk, .string rkey, .string rval, .int .u64 (pl : Int), .int .i64 pk, .int .i64 pa, .int .i64 pn, .string pkey, .int .i64 ec, .int .i64 eb, .int .i64 ef, .int .u32 (es : Int)]) w.heap.size 41 [.int .i64 k, .int .u64 (rl : Int), .int .i64 rk, .string rkey, .string rval, .int .u64 (pl : Int), .int .i64 pk, .int .i64 pa, .int .i64 pn, .string pkey, .int .i64 ec, .int .i64 eb, .int .i64 ef, .int .u32 (es : Int)]) := setL_blk [.int .i64 k, .int .u64 (rl : Int), .int .i64 rk, .string rkey, .string rval, .int .u64 (pl : Int), .int .i64 pk, .int .i64 pa, .int .i64 pn, .string pkey, .int .i64 ec, .int .i64 eb, .int .i64 ef, .int .u32 (es : Int)] _ 0 [] [.int .i64 0, .int .u64 0, .int .i64 0, .string ⟨#[]⟩, .string ⟨#[]⟩, .int .u64 0, .int .i64 0, .int .i64 0, .int .i64 0, .string ⟨#[]⟩, .int .i64 0, .int .i64 0, .int .i64 0, .int .u32 0] rfl rfl HA4.out
      refine bodyPost_ret (results_cell2 rfl _ _ w.heap.size 41 #[.int .i64 k, .int .u64 (rl : Int), .int .i64 rk, .string rkey, .string rval, .int .u64 (pl : Int), .int .i64 pk, .int .i64 pa, .int .i64 pn, .string pkey, .int .i64 ec, .int .i64 eb, .int .i64 ef, .int .u32 (es : Int)] (0, 0) _ rfl HF.out Try.underlying41 rfl (by kernel_rfl)) rfl ?_
      exact ⟨by rw [HOV.out]; rfl, (setL_keepO (B := w.heap.size) (O := w.heap.size) [.int .i64 k, .int .u64 (rl : Int), .int .i64 rk, .string rkey, .string rval, .int .u64 (pl : Int), .int .i64 pk, .int .i64 pa, .int .i64 pn, .string pkey, .int .i64 ec, .int .i64 eb, .int .i64 ef, .int .u32 (es : Int)] _ w 0 (Nat.le_refl _) (KeepO.of_below HB4.out)).below (Nat.le_refl _) (Nat.le_refl _)⟩
    · have HOV := hd (opV_no (HON.out (fun q => hc q.2.2)))
      have hq : (((code : Nat) : Int) != 0) = true := by simp; omega
      clear HQ HV HOY HON
      simp only [List.length_nil] at x0
      go_wp2_with fail
      refine Calls.mono (HRF.out _) ?_
      rintro e w4 ⟨rfl, hb⟩
      have HA4 := hd (HA3.out.keep hb)
      have HB4 : Hid (Below w.heap.size w w4) := HB3.out.trans (hb.mono HB3.out.size)
      clear hb HA3 HA2 HB3 HB2 HRF
      have a0 := HA4.out.cell 0 _ rfl
      have az0 := HA4.out.frozen 0
      have a1 := HA4.out.cell 1 _ rfl
      have az1 := HA4.out.frozen 1
      have a2 := HA4.out.cell 2 _ rfl
      have az2 := HA4.out.frozen 2
      have a3 := HA4.out.cell 3 _ rfl
      have az3 := HA4.out.frozen 3
      have a4 := HA4.out.cell 4 _ rfl
      have az4 := HA4.out.frozen 4
      have a5 := HA4.out.cell 5 _ rfl
      have az5 := HA4.out.frozen 5
      have a6 := HA4.out.cell 6 _ rfl
      have az6 := HA4.out.frozen 6
      have a7 := HA4.out.cell 7 _ rfl
      have az7 := HA4.out.frozen 7
      have a8 := HA4.out.cell 8 _ rfl
      have az8 := HA4.out.frozen 8
      have a9 := HA4.out.cell 9 _ rfl
      have az9 := HA4.out.frozen 9
      have a10 := HA4.out.cell 10 _ rfl
      have az10 := HA4.out.frozen 10
      have a11 := HA4.out.cell 11 _ rfl
      have az11 := HA4.out.frozen 11
      have a12 := HA4.out.cell 12 _ rfl
      have az12 := HA4.out.frozen 12
      have a13 := HA4.out.cell 13 _ rfl
      have az13 := HA4.out.frozen 13
      go_wp2_with fail
      have HF : Hid (Blk (setL w4 w.heap.size 0 [.int .i64 0, .int .u64 0, .int .i64 0, .string ⟨#[]⟩, .string ⟨#[]⟩, .int .u64 0, .int .i64 0, .int .i64 0, .int .i64 0, .string ⟨#[]⟩, .int .i64 0, .int .i64 0, .int .i64 0, .int .u32 0]) w.heap.size 41 [.int .i64 0, .int .u64 0, .int .i64 0, .string ⟨#[]⟩, .string ⟨#[]⟩, .int .u64 0, .int .i64 0, .int .i64 0, .int .i64 0, .string ⟨#[]⟩, .int .i64 0, .int .i64 0, .int .i64 0, .int .u32 0]) := setL_blk [.int .i64 0, .int .u64 0, .int .i64 0, .string ⟨#[]⟩, .string ⟨#[]⟩, .int .u64 0, .int .i64 0, .int .i64 0, .int .i64 0, .string ⟨#[]⟩, .int .i64 0, .int .i64 0, .int .i64 0, .int .u32 0] _ 0 [] [.int .i64 0, .int .u64 0, .int .i64 0, .string ⟨#[]⟩, .string ⟨#[]⟩, .int .u64 0, .int .i64 0, .int .i64 0, .int .i64 0, .string ⟨#[]⟩, .int .i64 0, .int .i64 0, .int .i64 0, .int .u32 0] rfl rfl HA4.out
      refine bodyPost_ret (results_cell2 rfl _ _ w.heap.size 41 #[.int .i64 0, .int .u64 0, .int .i64 0, .string ⟨#[]⟩, .string ⟨#[]⟩, .int .u64 0, .int .i64 0, .int .i64 0, .int .i64 0, .string ⟨#[]⟩, .int .i64 0, .int .i64 0, .int .i64 0, .int .u32 0] (0, 0) _ rfl HF.out Try.underlying41 rfl (by kernel_rfl)) rfl ?_
      exact ⟨by rw [HOV.out]; rfl, (setL_keepO (B := w.heap.size) (O := w.heap.size) [.int .i64 0, .int .u64 0, .int .i64 0, .string ⟨#[]⟩, .string ⟨#[]⟩, .int .u64 0, .int .i64 0, .int .i64 0, .int .i64 0, .string ⟨#[]⟩, .int .i64 0, .int .i64 0, .int .i64 0, .int .u32 0] _ w 0 (Nat.le_refl _) (KeepO.of_below HB4.out)).below (Nat.le_refl _) (Nat.le_refl _)⟩
theorem openF_is (v : Value) (l : List Nat) (w : World) (hI : IsB w v l) (hm : l.length ≤ 281474976710656) :
    Calls Try.prog 82 #[v] w fun e w' => e = .returned (opV l) ∧ Below w.heap.size w w' := by
  by_cases h : (badB 0 l).1 = 0
  · exact open_fine v l w hI hm h
  · exact open_bad v l w hI hm h
end Vt
end Go.Proofs.Ytlddogigbodilaa
namespace Go.Proofs.Ytlddogigbodilaa
namespace Crc

def mv (n : Nat) : Nat := if n % 2 = 1 then n / 2 ^^^ 2197175160 else n / 2
def mvN : Nat → Nat → Nat
  | 0, n => n
  | k + 1, n => mvN k (mv n)
def nt (n : Nat) : Nat := 4294967295 - n
def fe (s : Nat) (l : List Nat) : Nat := l.foldl (fun s b => mvN 8 (s ^^^ b)) s
theorem fe_nil (s : Nat) : fe s [] = s := by unfold fe; rw [List.foldl_nil]
theorem fe_cons (s b : Nat) (l : List Nat) : fe s (b :: l) = fe (mvN 8 (s ^^^ b)) l := by unfold fe; rw [List.foldl_cons]
def go (s : Nat) (l : List Nat) : Nat := nt (fe (nt s) l)
def num : List Nat → Nat
  | [] => 0
  | b :: l => b ^^^ num l * 256
def Byt (l : List Nat) : Prop := ∀ x ∈ l, x < 256

theorem xlc (a b c : Nat) : a ^^^ (b ^^^ c) = b ^^^ (a ^^^ c) := by
  rw [← Nat.xor_assoc, Nat.xor_comm a b, Nat.xor_assoc]
theorem xcc (a b : Nat) : a ^^^ (a ^^^ b) = b := by rw [← Nat.xor_assoc, Nat.xor_self, Nat.zero_xor]
theorem xor_lt {a b : Nat} (ha : a < 4294967296) (hb : b < 4294967296) : a ^^^ b < 4294967296 := Nat.xor_lt_two_pow (n := 32) ha hb
theorem xor_lt8 {a b : Nat} (ha : a < 256) (hb : b < 256) : a ^^^ b < 256 := Nat.xor_lt_two_pow (n := 8) ha hb
theorem xor_eq_zero {a b : Nat} (h : a ^^^ b = 0) : a = b := by
  have := xcc a b; rw [h, Nat.xor_zero] at this; exact this
theorem xor_mod_two (a b : Nat) : (a ^^^ b) % 2 = (a % 2) ^^^ (b % 2) := Nat.xor_mod_two_pow (n := 1)

theorem mv_xor (a b : Nat) : mv (a ^^^ b) = mv a ^^^ mv b := by
  unfold mv
  rw [xor_mod_two, Nat.xor_div_two]
  rcases Nat.mod_two_eq_zero_or_one a with ha | ha <;> rcases Nat.mod_two_eq_zero_or_one b with hb | hb <;> rw [ha, hb] <;> simp
  · rw [Nat.xor_assoc]
  · rw [Nat.xor_assoc, Nat.xor_assoc, Nat.xor_comm (b / 2)]
  · rw [Nat.xor_assoc, xlc 2197175160, Nat.xor_self, Nat.xor_zero]
theorem mvN_xor (k a b : Nat) : mvN k (a ^^^ b) = mvN k a ^^^ mvN k b := by
  induction k generalizing a b with
  | zero => rfl
  | succ k ih => simp only [mvN]; rw [mv_xor, ih]
theorem mvN_add (j k n : Nat) : mvN (j + k) n = mvN k (mvN j n) := by
  induction j generalizing n with
  | zero => simp [mvN]
  | succ j ih => rw [show j + 1 + k = (j + k) + 1 by omega]; simp only [mvN]; rw [ih]
theorem mvN_succ' (k n : Nat) : mvN (k + 1) n = mv (mvN k n) := by rw [mvN_add k 1]; rfl
theorem mv_zero : mv 0 = 0 := by decide
theorem mvN_zero (k : Nat) : mvN k 0 = 0 := by
  induction k with
  | zero => rfl
  | succ k ih => simp only [mvN]; rw [mv_zero, ih]
theorem mv_two (x : Nat) : mv (x * 2) = x := by
  unfold mv; rw [if_neg (by omega)]; omega
theorem mvN_shl (k x : Nat) : mvN k (x * 2 ^ k) = x := by
  induction k generalizing x with
  | zero => simp [mvN]
  | succ k ih => simp only [mvN]; rw [Nat.pow_succ, ← Nat.mul_assoc, mv_two, ih]
theorem mvN_shl_add (j k x : Nat) : mvN (j + k) (x * 2 ^ j) = mvN k x := by rw [mvN_add, mvN_shl]
theorem mv_lt {n : Nat} (h : n < 4294967296) : mv n < 4294967296 := by
  unfold mv; split
  · exact xor_lt (by omega) (by omega)
  · omega
theorem mvN_lt (k : Nat) {n : Nat} (h : n < 4294967296) : mvN k n < 4294967296 := by
  induction k generalizing n with
  | zero => exact h
  | succ k ih => exact ih (mv_lt h)

def bk (m : Nat) : Nat := if m / 2147483648 = 1 then ((m ^^^ 2197175160) * 2 % 4294967296) ||| 1 else m * 2 % 4294967296
def bkN : Nat → Nat → Nat
  | 0, n => n
  | k + 1, n => bkN k (bk n)
theorem or_one (x : Nat) : (x * 2) ||| 1 = x * 2 + 1 := by
  have := Nat.two_pow_add_eq_or_of_lt (i := 1) (b := 1) (by omega) x
  rw [Nat.mul_comm x 2]; simpa using this.symm
theorem top_xor {m : Nat} (_h : m < 4294967296) (h1 : m / 2147483648 = 1) : m ^^^ 2197175160 < 2147483648 := by
  have e : (m ^^^ 2197175160) / 2 ^ 31 = m / 2 ^ 31 ^^^ 2197175160 / 2 ^ 31 := Nat.xor_div_two_pow
  have e2 : (2 : Nat) ^ 31 = 2147483648 := rfl
  rw [e2, h1] at e
  have e3 : (1 : Nat) ^^^ 2197175160 / 2147483648 = 0 := by decide
  rw [e3] at e
  omega
theorem mv_bk {m : Nat} (h : m < 4294967296) : mv (bk m) = m := by
  unfold bk
  by_cases h1 : m / 2147483648 = 1
  · rw [if_pos h1]
    have t := top_xor h h1
    rw [Nat.mod_eq_of_lt (by omega), or_one]
    unfold mv; rw [if_pos (by omega), show ((m ^^^ 2197175160) * 2 + 1) / 2 = m ^^^ 2197175160 by omega, Nat.xor_assoc, Nat.xor_self, Nat.xor_zero]
  · rw [if_neg h1, Nat.mod_eq_of_lt (by omega), mv_two]
theorem bk_lt {m : Nat} (h : m < 4294967296) : bk m < 4294967296 := by
  unfold bk
  by_cases h1 : m / 2147483648 = 1
  · rw [if_pos h1]
    have t := top_xor h h1
    rw [Nat.mod_eq_of_lt (by omega), or_one]; omega
  · rw [if_neg h1]; omega
theorem bkN_lt (k : Nat) {m : Nat} (h : m < 4294967296) : bkN k m < 4294967296 := by
  induction k generalizing m with
  | zero => exact h
  | succ k ih => exact ih (bk_lt h)
theorem bkN_succ' (k n : Nat) : bkN (k + 1) n = bk (bkN k n) := by
  induction k generalizing n with
  | zero => rfl
  | succ k ih => rw [bkN, ih]; rfl
theorem mvN_bkN (k : Nat) {m : Nat} (h : m < 4294967296) : mvN k (bkN k m) = m := by
  induction k with
  | zero => rfl
  | succ k ih => rw [bkN_succ']; simp only [mvN]; rw [mv_bk (bkN_lt k h), ih]
theorem mv_eq_zero {n : Nat} (h : n < 4294967296) (e : mv n = 0) : n = 0 := by
  unfold mv at e
  split at e
  · have := xor_eq_zero e; omega
  · omega
theorem mvN_eq_zero (k : Nat) {n : Nat} (h : n < 4294967296) (e : mvN k n = 0) : n = 0 := by
  induction k generalizing n with
  | zero => exact e
  | succ k ih => exact mv_eq_zero h (ih (mv_lt h) e)

theorem tb_false {n i : Nat} (h : n < 4294967296) (hi : 32 ≤ i) : n.testBit i = false := by
  apply Nat.testBit_lt_two_pow
  have h1 : (2 : Nat) ^ 32 ≤ 2 ^ i := Nat.pow_le_pow_right (by decide) hi
  have e : (2 : Nat) ^ 32 = 4294967296 := rfl
  omega
theorem nt_lt (n : Nat) : nt n < 4294967296 := by unfold nt; omega
theorem nt_nt {n : Nat} (h : n < 4294967296) : nt (nt n) = n := by unfold nt; omega
theorem nt_xor {n : Nat} (h : n < 4294967296) : nt n = n ^^^ 4294967295 := by
  apply Nat.eq_of_testBit_eq
  intro i
  have e : nt n = 2 ^ 32 - (n + 1) := by unfold nt; omega
  rw [e, Nat.testBit_two_pow_sub_succ (by omega), Nat.testBit_xor, show (4294967295 : Nat) = 2 ^ 32 - 1 by rfl, Nat.testBit_two_pow_sub_one]
  by_cases hi : i < 32
  · simp [hi]
  · have := tb_false h (by omega : 32 ≤ i)
    simp [hi, this]
theorem nt_xor_nt {a b : Nat} (ha : a < 4294967296) (hb : b < 4294967296) : nt a ^^^ nt b = a ^^^ b := by
  rw [nt_xor ha, nt_xor hb, Nat.xor_assoc, xlc 4294967295, Nat.xor_self, Nat.xor_zero]

theorem fe_num (s : Nat) (l : List Nat) : fe s l = mvN (8 * l.length) (s ^^^ num l) := by
  induction l generalizing s with
  | nil => rw [fe_nil, List.length_nil, num, Nat.mul_zero, mvN, Nat.xor_zero]
  | cons b l ih =>
    rw [fe_cons, num, List.length_cons, ih, show 8 * (l.length + 1) = 8 + 8 * l.length by omega, mvN_add, ← Nat.xor_assoc, mvN_xor 8 (s ^^^ b) (num l * 256), show mvN 8 (num l * 256) = num l from mvN_shl 8 (num l)]
theorem fe_append (s : Nat) (a b : List Nat) : fe s (a ++ b) = fe (fe s a) b := by
  unfold fe; rw [List.foldl_append]
theorem fe_lt {s : Nat} {l : List Nat} (hs : s < 4294967296) (hl : Byt l) : fe s l < 4294967296 := by
  induction l generalizing s with
  | nil => rw [fe_nil]; exact hs
  | cons b l ih =>
    rw [fe_cons]
    exact ih (mvN_lt 8 (xor_lt hs (by have := hl b (by simp); omega))) (fun x hx => hl x (by simp [hx]))
theorem go_lt (s : Nat) (l : List Nat) : go s l < 4294967296 := nt_lt _
theorem go_nil {s : Nat} (h : s < 4294967296) : go s [] = s := by unfold go; rw [fe_nil]; exact nt_nt h
theorem go_append {s : Nat} {a : List Nat} (b : List Nat) (ha : Byt a) : go s (a ++ b) = go (go s a) b := by
  unfold go
  rw [fe_append, nt_nt (fe_lt (nt_lt s) ha)]

/-! the step by one table, by eight -/
def tb (k b : Nat) : Nat := mvN (8 * (k + 1)) b
theorem split_at (k s : Nat) : s = s % 2 ^ k ^^^ s / 2 ^ k * 2 ^ k := by
  apply Nat.eq_of_testBit_eq
  intro i
  rw [Nat.testBit_xor, Nat.testBit_mod_two_pow, Nat.testBit_mul_two_pow, Nat.testBit_div_two_pow]
  by_cases h : i < k
  · have h' : ¬ k ≤ i := by omega
    simp [h, h']
  · have h' : k ≤ i := by omega
    simp [h, h', Nat.sub_add_cancel h']
theorem split256 (s : Nat) : s = s % 256 ^^^ s / 256 * 256 := split_at 8 s
theorem step_tb (s b : Nat) : mvN 8 (s ^^^ b) = tb 0 (s % 256 ^^^ b) ^^^ s / 256 := by
  have e : s ^^^ b = (s % 256 ^^^ b) ^^^ s / 256 * 2 ^ 8 := by
    have h := split256 s
    rw [show (2 : Nat) ^ 8 = 256 by rfl, Nat.xor_assoc, Nat.xor_comm b, ← Nat.xor_assoc, ← h]
  rw [e, mvN_xor, mvN_shl]; rfl
theorem step_tb0 (s : Nat) : mvN 8 s = tb 0 (s % 256) ^^^ s / 256 := by
  have := step_tb s 0; simpa using this
theorem tb_succ (k b : Nat) : tb (k + 1) b = tb 0 (tb k b % 256) ^^^ tb k b / 256 := by
  rw [← step_tb0]; unfold tb; rw [show 8 * (k + 1 + 1) = 8 * (k + 1) + 8 by omega, mvN_add]
theorem tb_lt (k : Nat) {b : Nat} (h : b < 256) : tb k b < 4294967296 := mvN_lt _ (by omega)
theorem tb_xor (k a b : Nat) : tb k (a ^^^ b) = tb k a ^^^ tb k b := mvN_xor _ _ _
theorem tb01 : tb 0 1 ≠ 0 := by decide

theorem split4 {x : Nat} (h : x < 4294967296) : x = x % 256 ^^^ (x / 256 % 256 * 2 ^ 8 ^^^ (x / 65536 % 256 * 2 ^ 16 ^^^ x / 16777216 % 256 * 2 ^ 24)) := by
  apply Nat.eq_of_testBit_eq
  intro i
  rw [show (256 : Nat) = 2 ^ 8 by rfl, show (65536 : Nat) = 2 ^ 16 by rfl, show (16777216 : Nat) = 2 ^ 24 by rfl]
  simp only [Nat.testBit_xor, Nat.testBit_mod_two_pow, Nat.testBit_mul_two_pow, Nat.testBit_div_two_pow]
  by_cases h1 : i < 8
  · have a1 : ¬ 8 ≤ i := by omega
    have a2 : ¬ 16 ≤ i := by omega
    have a3 : ¬ 24 ≤ i := by omega
    simp [h1, a1, a2, a3]
  by_cases h2 : i < 16
  · have a1 : 8 ≤ i := by omega
    have a2 : ¬ 16 ≤ i := by omega
    have a3 : ¬ 24 ≤ i := by omega
    have a4 : i - 8 < 8 := by omega
    simp [h1, a1, a2, a3, a4]
  by_cases h3 : i < 24
  · have a1 : 8 ≤ i := by omega
    have a2 : 16 ≤ i := by omega
    have a3 : ¬ 24 ≤ i := by omega
    have a4 : i - 16 < 8 := by omega
    have a5 : ¬ i - 8 < 8 := by omega
    simp [h1, a1, a2, a3, a4, a5]
  by_cases h4 : i < 32
  · have a1 : 8 ≤ i := by omega
    have a2 : 16 ≤ i := by omega
    have a3 : 24 ≤ i := by omega
    have a4 : i - 24 < 8 := by omega
    have a5 : ¬ i - 8 < 8 := by omega
    have a6 : ¬ i - 16 < 8 := by omega
    simp [h1, a1, a2, a3, a4, a5, a6]
  · have a4 : ¬ i - 24 < 8 := by omega
    have a5 : ¬ i - 8 < 8 := by omega
    have a6 : ¬ i - 16 < 8 := by omega
    have := tb_false h (by omega : 32 ≤ i)
    simp [h1, a4, a5, a6, this]
/-- four moves of a table each -/
theorem four_tb (k : Nat) {x : Nat} (h : x < 4294967296) :
    mvN (32 + 8 * k) x = tb (k + 3) (x % 256) ^^^ (tb (k + 2) (x / 256 % 256) ^^^ (tb (k + 1) (x / 65536 % 256) ^^^ tb k (x / 16777216 % 256))) := by
  have e := split4 h
  rw [show mvN (32 + 8 * k) x = mvN (32 + 8 * k) (x % 256 ^^^ (x / 256 % 256 * 2 ^ 8 ^^^ (x / 65536 % 256 * 2 ^ 16 ^^^ x / 16777216 % 256 * 2 ^ 24))) from congrArg _ e]
  rw [mvN_xor, mvN_xor, mvN_xor]
  rw [show mvN (32 + 8 * k) (x / 256 % 256 * 2 ^ 8) = tb (k + 2) (x / 256 % 256) by
    rw [show 32 + 8 * k = 8 + 8 * (k + 2 + 1) by omega, mvN_shl_add]; rfl]
  rw [show mvN (32 + 8 * k) (x / 65536 % 256 * 2 ^ 16) = tb (k + 1) (x / 65536 % 256) by
    rw [show 32 + 8 * k = 16 + 8 * (k + 1 + 1) by omega, mvN_shl_add]; rfl]
  rw [show mvN (32 + 8 * k) (x / 16777216 % 256 * 2 ^ 24) = tb k (x / 16777216 % 256) by
    rw [show 32 + 8 * k = 24 + 8 * (k + 1) by omega, mvN_shl_add]; rfl]
  rw [show 32 + 8 * k = 8 * (k + 3 + 1) by omega]; rfl
def le4 (a b c d : Nat) : Nat := a ||| b * 256 ||| c * 65536 ||| d * 16777216
theorem or_shl (k x y : Nat) (h : x < 2 ^ k) : x ||| y * 2 ^ k = x ^^^ y * 2 ^ k := by
  apply Nat.eq_of_testBit_eq
  intro i
  rw [Nat.testBit_or, Nat.testBit_xor, Nat.testBit_mul_two_pow]
  by_cases hi : k ≤ i
  · have : x.testBit i = false := Nat.testBit_lt_two_pow (Nat.lt_of_lt_of_le h (Nat.pow_le_pow_right (by omega) hi))
    simp [this]
  · simp [hi]
theorem num4 {a b c d : Nat} (ha : a < 256) (hb : b < 256) (hc : c < 256) (_hd : d < 256) : le4 a b c d = num [a, b, c, d] := by
  unfold le4
  have e1 : a ||| b * 256 = a ^^^ b * 256 := or_shl 8 a b (by omega)
  have l1 : a ^^^ b * 256 < 2 ^ 16 := Nat.xor_lt_two_pow (by omega) (by omega)
  have e2 : (a ^^^ b * 256) ||| c * 65536 = (a ^^^ b * 256) ^^^ c * 65536 := or_shl 16 _ c l1
  have l2 : (a ^^^ b * 256) ^^^ c * 65536 < 2 ^ 24 := Nat.xor_lt_two_pow (Nat.lt_of_lt_of_le l1 (by decide)) (by omega)
  have e3 : ((a ^^^ b * 256) ^^^ c * 65536) ||| d * 16777216 = ((a ^^^ b * 256) ^^^ c * 65536) ^^^ d * 16777216 := or_shl 24 _ d l2
  rw [e1, e2, e3]
  simp only [num, Nat.zero_mul, Nat.xor_zero]
  have xm : ∀ x y : Nat, (x ^^^ y) * 256 = x * 256 ^^^ y * 256 := by
    intro x y
    have := Nat.shiftLeft_xor_distrib (i := 8) (a := x) (b := y)
    simpa [Nat.shiftLeft_eq] using this
  rw [xm, xm]
  rw [xm, show c * 256 * 256 = c * 65536 by omega, show d * 256 * 256 * 256 = d * 16777216 by omega, Nat.xor_assoc, Nat.xor_assoc]
theorem xor_mul256 (x y : Nat) : (x ^^^ y) * 256 = x * 256 ^^^ y * 256 := by
  have := Nat.shiftLeft_xor_distrib (i := 8) (a := x) (b := y)
  simpa [Nat.shiftLeft_eq] using this
theorem xor_mul_pow (k x y : Nat) : (x ^^^ y) * 2 ^ k = x * 2 ^ k ^^^ y * 2 ^ k := by
  have := Nat.shiftLeft_xor_distrib (i := k) (a := x) (b := y)
  simpa [Nat.shiftLeft_eq] using this
theorem num_append (a b : List Nat) : num (a ++ b) = num a ^^^ num b * 2 ^ (8 * a.length) := by
  induction a with
  | nil => simp [num]
  | cons x a ih =>
    simp only [List.cons_append, num, ih, List.length_cons]
    rw [xor_mul256, Nat.mul_assoc, show (256 : Nat) = 2 ^ 8 by rfl, ← Nat.pow_add, show 8 * a.length + 8 = 8 * (a.length + 1) by omega, Nat.xor_assoc]
theorem num_lt {l : List Nat} (h : Byt l) : num l < 2 ^ (8 * l.length) := by
  induction l with
  | nil => simp [num]
  | cons x l ih =>
    have hx := h x (by simp)
    have hl := ih (fun y hy => h y (by simp [hy]))
    simp only [num, List.length_cons]
    have e : 2 ^ (8 * (l.length + 1)) = 2 ^ (8 * l.length) * 256 := by rw [show 8 * (l.length + 1) = 8 * l.length + 8 by omega, Nat.pow_add]
    have p : 0 < 2 ^ (8 * l.length) := Nat.pow_pos (by omega)
    exact Nat.xor_lt_two_pow (by rw [e]; omega) (by rw [e]; exact (Nat.mul_lt_mul_right (by omega)).2 hl)
theorem num4_lt {a b c d : Nat} (ha : a < 256) (hb : b < 256) (hc : c < 256) (hd : d < 256) : num [a, b, c, d] < 4294967296 := by
  have b1 : Byt [a, b, c, d] := by intro x hx; simp at hx; rcases hx with rfl | rfl | rfl | rfl <;> assumption
  have h := num_lt b1
  have e : 2 ^ (8 * [a, b, c, d].length) = 4294967296 := by simp
  omega
/-- eight bytes by eight tables -/
theorem eight_tb {s a b c d e f g h : Nat} (hs : s < 4294967296) (ha : a < 256) (hb : b < 256) (hc : c < 256) (hd : d < 256) (he : e < 256) (hf : f < 256) (hg : g < 256) (hh : h < 256)
    {x y : Nat} (hx : x = s ^^^ le4 a b c d) (hy : y = le4 e f g h) :
    fe s [a, b, c, d, e, f, g, h] = (tb 7 (x % 256) ^^^ (tb 6 (x / 256 % 256) ^^^ (tb 5 (x / 65536 % 256) ^^^ tb 4 (x / 16777216 % 256)))) ^^^ (tb 3 (y % 256) ^^^ (tb 2 (y / 256 % 256) ^^^ (tb 1 (y / 65536 % 256) ^^^ tb 0 (y / 16777216 % 256)))) := by
  have n1 := num4 ha hb hc hd
  have n2 := num4 he hf hg hh
  have l1 : le4 a b c d < 4294967296 := by rw [n1]; exact num4_lt ha hb hc hd
  have l2 : le4 e f g h < 4294967296 := by rw [n2]; exact num4_lt he hf hg hh
  have hxl : x < 4294967296 := by rw [hx]; exact xor_lt hs l1
  have hyl : y < 4294967296 := by rw [hy]; exact l2
  have p1 := four_tb 4 hxl
  have p2 := four_tb 0 hyl
  rw [fe_num, show [a, b, c, d, e, f, g, h] = [a, b, c, d] ++ [e, f, g, h] from rfl, num_append, ← Nat.xor_assoc, ← n1, ← n2, ← hx, ← hy, mvN_xor]
  rw [show mvN (8 * ([a, b, c, d] ++ [e, f, g, h]).length) x = mvN (32 + 8 * 4) x from rfl, p1]
  rw [show mvN (8 * ([a, b, c, d] ++ [e, f, g, h]).length) (y * 2 ^ (8 * [a, b, c, d].length)) = mvN (32 + (32 + 8 * 0)) (y * 2 ^ 32) from rfl, mvN_shl_add, p2]

/-! Forge -/
def fg (s w : Nat) : Nat := bkN 32 (nt w) ^^^ nt s
def by4 (x : Nat) : List Nat := [x % 256, x / 256 % 256, x / 65536 % 256, x / 16777216 % 256]
theorem by4_byt (x : Nat) : Byt (by4 x) := by
  intro y hy; unfold by4 at hy; simp at hy; rcases hy with rfl | rfl | rfl | rfl <;> omega
theorem num_by4 {x : Nat} (h : x < 4294967296) : num (by4 x) = x := by
  simp only [by4, num, Nat.zero_mul, Nat.xor_zero]
  rw [xor_mul256, xor_mul256, xor_mul256]
  have e := split4 h
  rw [show x / 65536 % 256 * 256 * 256 = x / 65536 % 256 * 2 ^ 16 by omega, show x / 16777216 % 256 * 256 * 256 * 256 = x / 16777216 % 256 * 2 ^ 24 by omega]
  exact e.symm
theorem fg_lt (s w : Nat) : fg s w < 4294967296 := xor_lt (bkN_lt 32 (nt_lt w)) (nt_lt s)
theorem go_fg (s : Nat) {w : Nat} (hw : w < 4294967296) : go s (by4 (fg s w)) = w := by
  unfold go
  rw [fe_num, num_by4 (fg_lt s w)]
  unfold fg
  rw [xlc, Nat.xor_self, Nat.xor_zero, show 8 * (by4 _).length = 32 from rfl, mvN_bkN 32 (nt_lt w), nt_nt hw]

/-! what holds -/
theorem go_num {s : Nat} {l : List Nat} (hs : s < 4294967296) (hl : Byt l) : go s l = mvN (8 * l.length) ((s ^^^ 4294967295) ^^^ num l) ^^^ 4294967295 := by
  unfold go
  rw [nt_xor (fe_lt (nt_lt s) hl), fe_num, nt_xor hs]
theorem go_join {s : Nat} {l : List Nat} (hs : s < 4294967296) (hl : Byt l) : go s l = mvN (8 * l.length) s ^^^ go 0 l := by
  rw [go_num hs hl, go_num (by omega) hl, Nat.zero_xor, Nat.xor_assoc s, mvN_xor _ s, Nat.xor_assoc]
def zx (a b : List Nat) : List Nat := List.zipWith (· ^^^ ·) a b
theorem num_zx : ∀ (a b : List Nat), a.length = b.length → num (zx a b) = num a ^^^ num b := by
  intro a
  induction a with
  | nil => intro b h; cases b <;> simp_all [zx, num]
  | cons x a ih =>
    intro b h
    cases b with
    | nil => simp at h
    | cons y b =>
      have e : zx (x :: a) (y :: b) = (x ^^^ y) :: zx a b := rfl
      rw [e]
      simp only [num]
      rw [ih b (by simpa using h), xor_mul256, Nat.xor_assoc, Nat.xor_assoc, xlc y]
theorem num_zero (n : Nat) : num (List.replicate n 0) = 0 := by
  induction n with
  | zero => rfl
  | succ n ih => simp [List.replicate_succ, num, ih]
theorem byt_zero (n : Nat) : Byt (List.replicate n 0) := by intro x hx; have := List.eq_of_mem_replicate hx; omega
theorem byt_zx : ∀ {a b : List Nat}, Byt a → Byt b → Byt (zx a b) := by
  intro a
  induction a with
  | nil => intro b _ _ x hx; simp [zx] at hx
  | cons p a ih =>
    intro b ha hb
    cases b with
    | nil => intro x hx; simp [zx] at hx
    | cons q b =>
      intro x hx
      have e : zx (p :: a) (q :: b) = (p ^^^ q) :: zx a b := rfl
      rw [e] at hx
      simp only [List.mem_cons] at hx
      rcases hx with rfl | hx
      · exact xor_lt8 (ha p (by simp)) (hb q (by simp))
      · exact ih (fun y hy => ha y (by simp [hy])) (fun y hy => hb y (by simp [hy])) x hx
theorem go_put {a b : List Nat} (h : a.length = b.length) (ha : Byt a) (hb : Byt b) :
    go 0 (zx a b) = go 0 a ^^^ go 0 b ^^^ go 0 (List.replicate a.length 0) := by
  have lz : (zx a b).length = a.length := by simp [zx, h]
  rw [go_num (by omega) (byt_zx ha hb), go_num (by omega) ha, go_num (by omega) hb, go_num (by omega) (byt_zero _), num_zx a b h, num_zero, lz, ← h, List.length_replicate]
  simp only [Nat.zero_xor, Nat.xor_zero]
  rw [mvN_xor, mvN_xor, mvN_xor, mvN_xor]
  generalize mvN (8 * a.length) 4294967295 = F
  generalize mvN (8 * a.length) (num a) = A
  generalize mvN (8 * a.length) (num b) = B
  generalize 4294967295 = C
  have h1 : F ^^^ A ^^^ C ^^^ (F ^^^ B ^^^ C) ^^^ (F ^^^ C) = (F ^^^ F) ^^^ (C ^^^ C) ^^^ (F ^^^ (A ^^^ B) ^^^ C) := by ac_rfl
  rw [h1]; simp
theorem burst {a b : List Nat} {q t : Nat} (h : a.length = b.length) (ha : Byt a) (hb : Byt b) (e : num b = num a ^^^ q * 2 ^ t) (ht : t ≤ 8 * a.length) (hq : q < 4294967296) (h0 : q ≠ 0) : go 0 a ≠ go 0 b := by
  intro hh
  rw [go_num (by omega) ha, go_num (by omega) hb, e, ← h] at hh
  have e1 : mvN (8 * a.length) ((0 ^^^ 4294967295) ^^^ num a) = mvN (8 * a.length) ((0 ^^^ 4294967295) ^^^ (num a ^^^ q * 2 ^ t)) := by
    have := congrArg (· ^^^ 4294967295) hh
    simpa [Nat.xor_assoc] using this
  rw [← Nat.xor_assoc, mvN_xor _ _ (q * 2 ^ t)] at e1
  have e2 : mvN (8 * a.length) (q * 2 ^ t) = 0 := by
    have := congrArg (mvN (8 * a.length) ((0 ^^^ 4294967295) ^^^ num a) ^^^ ·) e1
    simp only [Nat.xor_self, xcc] at this; exact this.symm
  rw [show 8 * a.length = t + (8 * a.length - t) by omega, mvN_shl_add] at e2
  exact h0 (mvN_eq_zero _ hq e2)
theorem num_set (l : List Nat) (j r : Nat) (hj : j < l.length) : num (l.set j (l.getD j 0 ^^^ 2 ^ r)) = num l ^^^ 2 ^ (8 * j + r) := by
  induction l generalizing j with
  | nil => simp at hj
  | cons x l ih =>
    cases j with
    | zero => simp only [List.set_cons_zero, num, List.getD_cons_zero]; rw [Nat.xor_assoc, Nat.xor_assoc, Nat.xor_comm (2 ^ r)]; simp
    | succ j =>
      simp only [List.set_cons_succ, num, List.getD_cons_succ]
      rw [ih j (by simpa using hj), xor_mul256, show (256 : Nat) = 2 ^ 8 by rfl, ← Nat.pow_add, show 8 * j + r + 8 = 8 * (j + 1) + r by omega, Nat.xor_assoc]
end Crc
end Go.Proofs.Ytlddogigbodilaa
