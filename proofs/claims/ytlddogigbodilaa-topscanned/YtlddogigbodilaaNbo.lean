/-
  RECORDS OF RAW NUMBERS, the same each time: pick, keyOf, valueOf, recordOf answer by their arguments alone.
-/
import Derived.Test.YtlddogigbodilaaNbn
namespace Go.Proofs.Ytlddogigbodilaa
open Go.ChangeShapes Go.WideShapes Go.ChangeAt Go.RowKit Go.Shelf
namespace Vt
/-- which of n things a raw number speaks of -/
def pkN (z : Int) (n : Nat) : Nat := if z < 0 then ((-(z + 1)).tmod (n : Int)).toNat else (z % (n : Int)).toNat
theorem pkN_lt (z : Int) {n : Nat} (hn : 0 < n) : pkN z n < n := by
  unfold pkN
  split
  · have h1 := Int.tmod_lt_of_pos (-(z + 1)) (show (0 : Int) < n by omega)
    omega
  · have h1 := Int.emod_lt_of_pos z (show (0 : Int) < n by omega)
    omega
set_option maxRecDepth 100000 in
theorem tpick_eq (z : Int) (n : Nat) (w : World) (hn : 0 < n) (hn2 : n ≤ 1099511627776) (hz : (Lit.int .i64 z).wf = true) :
    Calls Try.prog 45 #[.int .i64 z, .int .i64 (n : Int)] w fun e w' => e = .returned (.int .i64 (pkN z n : Int)) ∧ w' = w := by
  have hb := bounds_i64 hz
  unfold pkN
  by_cases h : z < 0
  · rw [if_pos h]
    go_enter Try.func45, Try.ntmps45
    go_wp2
    go_ret
    refine ⟨?_, rfl⟩
    have h2 := Int.tmod_nonneg (n : Int) (show (0 : Int) ≤ -(z + 1) by omega)
    rw [Int.toNat_of_nonneg h2, Int.neg_tmod]; rfl
  · rw [if_neg h]
    go_enter Try.func45, Try.ntmps45
    go_wp2
    go_ret
    refine ⟨?_, rfl⟩
    rw [show max (z % (n : Int)) 0 = z % (n : Int) from Int.max_eq_left (Int.emod_nonneg z (show (n : Int) ≠ 0 by omega))]; rfl
/-- the longest key, as it grows -/
def kyq : Nat → ByteArray
  | 0 => ⟨#[102]⟩
  | j + 1 => kyq j ++ ⟨#[166]⟩
theorem kyq_size (j : Nat) : (kyq j).size = j + 1 := by
  induction j with
  | zero => rfl
  | succ j ih => show (kyq j ++ ⟨#[166]⟩).size = _; rw [ByteArray.size_append, ih]; rfl
/-- one of six keys -/
def kyF (k : Nat) : ByteArray :=
  if k = 0 then ⟨#[97]⟩ else if k = 1 then ⟨#[98]⟩ else if k = 2 then ⟨#[99]⟩ else if k = 3 then ⟨#[100]⟩ else if k = 4 then ⟨#[101, 167, 0, 166, 167]⟩ else kyq 63
theorem kyF_size (k : Nat) : 1 ≤ (kyF k).size ∧ (kyF k).size ≤ 64 := by
  unfold kyF
  split
  · decide
  split
  · decide
  split
  · decide
  split
  · decide
  split
  · decide
  rw [kyq_size]
  omega
set_option maxRecDepth 100000 in
set_option maxHeartbeats 2000000 in
theorem keyOf_eq (z : Int) (w : World) (hz : (Lit.int .i64 z).wf = true) :
    Calls Try.prog 58 #[.int .i64 z] w fun e w' => e = .returned (.string (kyF (pkN z 6))) ∧ w' = w := by
  have HP := hd (tpick_eq z 6 w (by omega) (by omega) hz)
  have hk := pkN_lt z (n := 6) (by omega)
  generalize pkN z 6 = k at HP hk ⊢
  obtain ⟨T, hT⟩ : ∃ T, T = kyF k := ⟨_, rfl⟩
  rw [← hT]
  go_enter Try.func58, Try.ntmps58
  go_wp2_with fail
  refine Calls.mono HP.out ?_
  rintro e w' ⟨rfl, hw'⟩
  have hw2 := hw'.symm
  subst hw2
  clear hw' HP
  by_cases h5 : k = 5
  · subst h5
    have HT := hd hT
    clear hT
    go_wp2_with fail
    go_loopw [4] (fun s wr => ∃ j : Nat, j ≤ 63 ∧ s = .string (kyq j) ∧ wr = w) (fun s _ => 64 - strLen s)
    case atStart => exact ⟨0, by omega, rfl, rfl⟩
    case round =>
      obtain ⟨j, hj, rfl, rfl⟩ := hrel
      have HS := hd (kyq_size j)
      obtain ⟨S, hS⟩ : ∃ S, S = kyq j := ⟨_, rfl⟩
      rw [← hS] at HS ⊢
      have HSE := hd hS
      clear hS
      by_cases hlt : j < 63
      · have hs : S.size < 64 := by rw [HS.out]; omega
        go_wp2_with fail
        go_roundw
        case rel => exact ⟨j + 1, by omega, by show _ = Value.string (kyq j ++ ⟨#[166]⟩); rw [← HSE.out], (by first | rfl | trivial)⟩
        case measure => show 64 - (S ++ ⟨#[166]⟩).size < 64 - S.size; rw [ByteArray.size_append, show (ByteArray.mk #[166]).size = 1 from rfl]; omega
      · have hs : ¬ S.size < 64 := by rw [HS.out]; omega
        have hj63 : Hid (j = 63) := by show j = 63; omega
        go_wp2_with fail
        go_ret
        refine ⟨?_, rfl⟩
        rw [HT.out, HSE.out, hj63.out]; rfl
  · have HT := hd hT
    clear hT
    obtain rfl | rfl | rfl | rfl | rfl : k = 0 ∨ k = 1 ∨ k = 2 ∨ k = 3 ∨ k = 4 := by omega
    all_goals
      go_wp2_with fail
      go_loopw [4] (fun s wr => s = .string T ∧ wr = w) (fun s _ => 64 - strLen s)
      case atStart => exact ⟨by rw [HT.out]; first | rfl | decide, rfl⟩
      case round =>
        obtain ⟨rfl, rfl⟩ := hrel
        go_wp2_with fail
        go_ret
        exact ⟨rfl, rfl⟩
/-- the value's bytes, as they come -/
def vX (z : Int) (j : Nat) : Nat := pkN (wrap64 (z.tdiv (1 + (j : Int) % 5) + (j : Int) * 31)) 256
theorem vX_lt (z : Int) (j : Nat) : vX z j < 256 := pkN_lt _ (by omega)
def vq (X : Nat → Nat) : Nat → ByteArray
  | 0 => ⟨#[]⟩
  | j + 1 => vq X j ++ str [X j]
theorem vq_size {X : Nat → Nat} (h : ∀ j, X j < 256) (j : Nat) : (vq X j).size = j := by
  induction j with
  | zero => rfl
  | succ j ih => show (vq X j ++ str [X j]).size = _; rw [ByteArray.size_append, ih, str_size (by intro y hy; simp at hy; have := h j; omega)]; rfl
def vlF (z : Int) : ByteArray :=
  if pkN z 9 = 8 then vq (vX z) (pkN (z.tdiv 9) 40 * 9) else if pkN z 9 = 6 then vq (vX z) (pkN (z.tdiv 9) 40) ++ str (en forg) else if pkN z 9 = 7 then vq (vX z) (pkN (z.tdiv 9) 40) ++ ⟨#[167, 167, 0, 0]⟩ else vq (vX z) (pkN (z.tdiv 9) 40)
theorem vlF_size (z : Int) : (vlF z).size ≤ 500 := by
  have h := pkN_lt (z.tdiv 9) (n := 40) (by omega)
  have hv := vq_size (vX_lt z)
  unfold vlF
  split
  · rw [hv]; omega
  split
  · rw [ByteArray.size_append, hv, str_size (en_bytR forg_rf)]; have := forg_len; omega
  split
  · rw [ByteArray.size_append, hv, show (ByteArray.mk #[167, 167, 0, 0]).size = 4 from rfl]; omega
  · rw [hv]; omega
set_option maxRecDepth 100000 in
set_option maxHeartbeats 2000000 in
theorem valueOf_eq (z : Int) (w : World) (hz : (Lit.int .i64 z).wf = true) :
    Calls Try.prog 59 #[.int .i64 z] w fun e w' => e = .returned (.string (vlF z)) ∧ Below w.heap.size w w' := by
  have HP := hd (tpick_eq z 9 w (by omega) (by omega) hz)
  obtain ⟨T, hT⟩ : ∃ T, T = vlF z := ⟨_, rfl⟩
  rw [← hT]
  have HT0 := hd hT
  clear hT
  unfold vlF at HT0
  have hk := pkN_lt z (n := 9) (by omega)
  generalize pkN z 9 = k at HP hk HT0
  have HN0 : Hid (∀ m, m = pkN (z.tdiv 9) 40 → m < 40) := fun m h => by rw [h]; exact pkN_lt _ (by omega)
  have hbz := bounds_i64 hz
  go_enter Try.func59, Try.ntmps59
  go_wp2_with fail
  refine Calls.mono HP.out ?_
  rintro e w' ⟨rfl, hw'⟩
  have hw2 := hw'.symm
  subst hw2
  clear hw' HP
  go_wp2_with fail
  refine Calls.mono (tpick_eq _ 40 w (by omega) (by omega) ?wf1) ?_
  case wf1 =>
    refine Go.WalkArith.wf_i64 ?_
    have h1 := Int.tdiv_nonneg (a := z) (b := 9)
    by_cases h0 : 0 ≤ z
    · rw [Int.tdiv_eq_ediv_of_nonneg h0]; omega
    · have h2 : z.tdiv 9 = -((-z) / 9) := by rw [← Int.tdiv_eq_ediv_of_nonneg (by omega), Int.neg_tdiv, Int.neg_neg]
      rw [h2]; omega
  rintro e w' ⟨rfl, hw'⟩
  have hw2 := hw'.symm
  subst hw2
  clear hw'
  obtain ⟨n, hn0⟩ : ∃ n, n = pkN (z.tdiv 9) 40 := ⟨_, rfl⟩
  have hn := HN0.out n hn0
  rw [← hn0] at HT0 ⊢
  clear hn0 HN0
  have HFV : Hid (fv forg = #[.int .i64 1, .int .u64 999999, .int .i64 1, .string ⟨#[97]⟩, .string ⟨#[102, 111, 114, 103, 101, 100]⟩, .int .u64 0, .int .i64 0, .int .i64 0, .int .i64 0, .string ⟨#[]⟩, .int .i64 0, .int .i64 0, .int .i64 0, .int .u32 0]) := rfl
  by_cases h8 : k = 8
  · subst h8
    obtain ⟨m, hmn⟩ : ∃ m : Nat, (n : Int) * 9 = (m : Int) := ⟨n * 9, by omega⟩
    have hm : m ≤ 351 := by omega
    have HMN : Hid (n * 9 = m) := by show n * 9 = m; omega
    go_wp2_with fail
    go_loopw [4, 6] (fun s i wr => ∃ (t : ByteArray) (j : Nat), j ≤ m ∧ i = .int .i64 (j : Int) ∧ s = .string t ∧ t.size = j ∧ t = vq (vX z) j ∧ Below w.heap.size w wr) (fun _ i _ => m - (intOf i).toNat)
    case atStart => exact ⟨_, 0, by omega, rfl, rfl, rfl, rfl, Below.refl _ _⟩
    case round =>
      obtain ⟨t, j, hj, rfl, rfl, ht, htv, hbr⟩ := hrel
      have HTV := hd htv
      clear htv
      have HT := hd ht
      have hts : t.size ≤ 400 := by omega
      have HBR := hd hbr
      have hsr := hbr.size
      clear ht hbr
      by_cases hlt : j < m
      · go_wp2_with fail
        refine Calls.mono (tpick_eq _ 256 wr (by omega) (by omega) ?wf2) ?_
        case wf2 => exact wrap64_wf _
        rintro e w' ⟨rfl, hw'⟩
        have hxe : pkN (wrap64 (z.tdiv (1 + (j : Int) % 5) + (j : Int) * 31)) 256 = vX z j := rfl
        rw [hxe]
        have hx := pkN_lt (wrap64 (z.tdiv (1 + (j : Int) % 5) + (j : Int) * 31)) (n := 256) (by omega)
        rw [hxe] at hx
        have HNX : Hid (vq (vX z) (j + 1) = vq (vX z) j ++ str [vX z j]) := rfl
        generalize vX z j = x at hx HNX ⊢
        clear hxe
        have hw2 := hw'.symm
        subst hw2
        clear hw'
        have hcv := conv_is (wr.alloc (.cells #[.int .u8 (x : Int)] 5)) (.slice (some ⟨wr.heap.size, 0, none⟩) 1 1) [x] (lit_isK .u8 256 wr #[.int .u8 (x : Int)] 5 [x] 1 rfl rfl (by simpa using hx) (by simp [maxLen]))
        have hst : (str [x]).size = 1 := str_size (by intro y hy; simp at hy; omega)
        have HST := hd hst
        have hss : (str [x]).size ≤ 1 := by omega
        clear hst
        generalize str [x] = S at hcv HST hss HNX ⊢
        go_wp2_with fail
        go_roundw
        case rel => first | exact ⟨t ++ S, j + 1, by omega, by go_num, rfl, by rw [ByteArray.size_append, HT.out, HST.out], by rw [HNX.out, ← HTV.out], HBR.out.alloc hsr _⟩ | ((repeat apply Exists.intro); exact ⟨⟨t ++ S, j + 1, by omega, by go_num, rfl, by rw [ByteArray.size_append, HT.out, HST.out], by rw [HNX.out, ← HTV.out], HBR.out.alloc hsr _⟩, rfl⟩)
        case measure => simp [intOf]; omega
      · obtain rfl : j = m := by omega
        go_wp2_with fail
        go_ret
        refine ⟨?_, HBR.out⟩
        have h1 := HT0.out
        rw [if_pos trivial, HMN.out] at h1
        rw [h1, ← HTV.out]; rfl
  · have g8 : ((k : Int) == 8) = false := by rw [beq_eq_false_iff_ne]; omega
    rw [if_neg h8] at HT0
    obtain ⟨m, hmn⟩ : ∃ m : Nat, n = m := ⟨n, rfl⟩
    subst hmn
    obtain ⟨m, hmn⟩ : ∃ m : Nat, m = n := ⟨n, rfl⟩
    subst hmn
    go_wp2_with fail
    go_loopw [4, 6] (fun s i wr => ∃ (t : ByteArray) (j : Nat), j ≤ m ∧ i = .int .i64 (j : Int) ∧ s = .string t ∧ t.size = j ∧ t = vq (vX z) j ∧ Below w.heap.size w wr) (fun _ i _ => m - (intOf i).toNat)
    case atStart => exact ⟨_, 0, by omega, rfl, rfl, rfl, rfl, Below.refl _ _⟩
    case round =>
      obtain ⟨t, j, hj, rfl, rfl, ht, htv, hbr⟩ := hrel
      have HTV := hd htv
      clear htv
      have HT := hd ht
      have hts : t.size ≤ 400 := by omega
      have HBR := hd hbr
      have hsr := hbr.size
      clear ht hbr
      by_cases hlt : j < m
      · go_wp2_with fail
        refine Calls.mono (tpick_eq _ 256 wr (by omega) (by omega) ?wf2) ?_
        case wf2 => exact wrap64_wf _
        rintro e w' ⟨rfl, hw'⟩
        have hxe : pkN (wrap64 (z.tdiv (1 + (j : Int) % 5) + (j : Int) * 31)) 256 = vX z j := rfl
        rw [hxe]
        have hx := pkN_lt (wrap64 (z.tdiv (1 + (j : Int) % 5) + (j : Int) * 31)) (n := 256) (by omega)
        rw [hxe] at hx
        have HNX : Hid (vq (vX z) (j + 1) = vq (vX z) j ++ str [vX z j]) := rfl
        generalize vX z j = x at hx HNX ⊢
        clear hxe
        have hw2 := hw'.symm
        subst hw2
        clear hw'
        have hcv := conv_is (wr.alloc (.cells #[.int .u8 (x : Int)] 5)) (.slice (some ⟨wr.heap.size, 0, none⟩) 1 1) [x] (lit_isK .u8 256 wr #[.int .u8 (x : Int)] 5 [x] 1 rfl rfl (by simpa using hx) (by simp [maxLen]))
        have hst : (str [x]).size = 1 := str_size (by intro y hy; simp at hy; omega)
        have HST := hd hst
        have hss : (str [x]).size ≤ 1 := by omega
        clear hst
        generalize str [x] = S at hcv HST hss HNX ⊢
        go_wp2_with fail
        go_roundw
        case rel => first | exact ⟨t ++ S, j + 1, by omega, by go_num, rfl, by rw [ByteArray.size_append, HT.out, HST.out], by rw [HNX.out, ← HTV.out], HBR.out.alloc hsr _⟩ | ((repeat apply Exists.intro); exact ⟨⟨t ++ S, j + 1, by omega, by go_num, rfl, by rw [ByteArray.size_append, HT.out, HST.out], by rw [HNX.out, ← HTV.out], HBR.out.alloc hsr _⟩, rfl⟩)
        case measure => simp [intOf]; omega
      · obtain rfl : j = m := by omega
        by_cases h6 : k = 6
        · subst h6
          have HEN := hd (encF_all forg_wf forg_rf wr)
          rw [HFV.out] at HEN
          go_wp2_with fail
          refine Calls.mono HEN.out ?_
          rintro e w3 ⟨u, rfl, j3, b3⟩
          obtain ⟨a3, c3, rfl, hc3⟩ := JK.shape (k := .u8) (M := 256) (E := 5) j3
          have hcv := conv_is w3 _ _ j3.isB
          have HSZ : Hid ((str (en forg)).size ≤ 100) := by
            show (str (en forg)).size ≤ 100
            rw [str_size (en_bytR forg_rf)]; exact forg_len
          have HB3 := hd b3
          have hss := HSZ.out
          clear b3 j3 HEN
          generalize str (en forg) = S at hcv HSZ hss HT0 ⊢
          go_wp2_with fail
          go_ret
          refine ⟨?_, HBR.out.trans (HB3.out.mono hsr)⟩
          have h1 := HT0.out
          rw [if_pos trivial] at h1
          rw [h1, ← HTV.out]; rfl
        · by_cases h7 : k = 7
          · subst h7
            go_wp2_with fail
            go_ret
            refine ⟨?_, HBR.out⟩
            have h1 := HT0.out
            rw [if_neg (by decide), if_pos trivial] at h1
            rw [h1, ← HTV.out]; rfl
          · have g6 : ((k : Int) == 6) = false := by rw [beq_eq_false_iff_ne]; omega
            have g7 : ((k : Int) == 7) = false := by rw [beq_eq_false_iff_ne]; omega
            have H6 := hd h6
            have H7 := hd h7
            go_wp2_with fail
            go_ret
            refine ⟨?_, HBR.out⟩
            have h1 := HT0.out
            rw [if_neg H6.out, if_neg H7.out] at h1
            rw [h1, ← HTV.out]; rfl
/-- a record of raw numbers -/
def rcQ (k y v : Int) (n : Nat) : Rec := if pkN k 4 = 0 then ⟨n, 2, kyF (pkN y 6), ByteArray.empty⟩ else ⟨n, 1, kyF (pkN y 6), vlF v⟩
theorem rcQ_may (k y v : Int) {n : Nat} (hn0 : n ≠ 0) (hn : n < 18446744073709551616) : MayR n (rcQ k y v n) := by
  have hk := kyF_size (pkN y 6)
  have hv := vlF_size v
  unfold rcQ
  split
  · exact ⟨rfl, ⟨hn, (by decide : (0 : Nat) < 18446744073709551616), (by decide : (0 : Nat) < 4294967296)⟩, del_rf hn0 hk, bd_small (f := ofR ⟨n, 2, kyF (pkN y 6), ByteArray.empty⟩) ⟨hn, (by decide : (0 : Nat) < 18446744073709551616), (by decide : (0 : Nat) < 4294967296)⟩ (del_rf hn0 hk) (.inr rfl) (by decide : 0 ≤ 500)⟩
  · exact ⟨rfl, ⟨hn, (by decide : (0 : Nat) < 18446744073709551616), (by decide : (0 : Nat) < 4294967296)⟩, put_rf hn0 hk (by omega), bd_small (f := ofR ⟨n, 1, kyF (pkN y 6), vlF v⟩) ⟨hn, (by decide : (0 : Nat) < 18446744073709551616), (by decide : (0 : Nat) < 4294967296)⟩ (put_rf hn0 hk (by omega)) (.inl rfl) hv⟩
set_option maxRecDepth 100000 in
set_option maxHeartbeats 2000000 in
theorem recordOf_eq (k y v m : Int) (n : Nat) (w : World) (hk : (Lit.int .i64 k).wf = true) (hy : (Lit.int .i64 y).wf = true) (hv : (Lit.int .i64 v).wf = true) :
    Calls Try.prog 37 #[.agg #[.int .i64 k, .int .i64 y, .int .i64 v, .int .i64 m], .int .u64 (n : Int)] w fun e w' => e = .returned (.agg #[.int .u64 (n : Int), .int .i64 (rcQ k y v n).kind, .string (rcQ k y v n).key, .string (rcQ k y v n).val]) ∧ Below w.heap.size w w' := by
  have hmx : Try.prog.follows .mixedOrders = true := by kernel_rfl
  have HP : Hid (∀ x, Calls Try.prog 45 #[.int .i64 k, .int .i64 4] x fun e w' => e = .returned (.int .i64 (pkN k 4 : Int)) ∧ w' = x) := fun x => tpick_eq k 4 x (by omega) (by omega) hk
  have HKY : Hid (∀ x, Calls Try.prog 58 #[.int .i64 y] x fun e w' => e = .returned (.string (kyF (pkN y 6))) ∧ w' = x) := fun x => keyOf_eq y x hy
  have HVL : Hid (∀ x, Calls Try.prog 59 #[.int .i64 v] x fun e w' => e = .returned (.string (vlF v)) ∧ Below x.heap.size x w') := fun x => valueOf_eq v x hv
  unfold rcQ
  generalize pkN k 4 = c at HP ⊢
  generalize kyF (pkN y 6) = t1 at HKY ⊢
  generalize vlF v = t2 at HVL ⊢
  go_enter Try.func37, Try.ntmps37
  go_wp2_with fail
  refine Calls.mono (HP.out _) ?_
  rintro e w' ⟨rfl, hw'⟩
  obtain ⟨W0, hW0⟩ : ∃ W0, W0 = (w.alloc (.cells #[.int .i64 k, .int .i64 y, .int .i64 v, .int .i64 m] 82)).alloc (.cells #[.int .u64 0, .int .i64 0, .string ⟨#[]⟩, .string ⟨#[]⟩] 32) := ⟨_, rfl⟩
  obtain ⟨N, hN⟩ : ∃ N, N = w.heap.size := ⟨_, rfl⟩
  have hs0 : W0.heap.size = N + 2 := by rw [hW0, hN]; simp
  have HB0 : Hid (Below w.heap.size w W0) := by rw [hW0]; exact ((Below.refl _ _).alloc (Nat.le_refl _) _).alloc (by simp) _
  have BR : Hid (Blk W0 N 82 [.int .i64 k, .int .i64 y, .int .i64 v, .int .i64 m]) := by rw [hW0, hN]; exact (Blk.new w _ _).alloc _
  have BD : Hid (Blk W0 (N + 1) 32 [.int .u64 0, .int .i64 0, .string ⟨#[]⟩, .string ⟨#[]⟩]) := by
    have := Blk.new (w.alloc (.cells #[.int .i64 k, .int .i64 y, .int .i64 v, .int .i64 m] 82)) 32 [.int .u64 0, .int .i64 0, .string ⟨#[]⟩, .string ⟨#[]⟩]
    rw [World.size_alloc, ← hN] at this
    rw [hW0]; exact this
  rw [hw', ← hW0]
  clear hw' HP hW0
  have HN := hd hN
  rw [← hN]
  clear hN
  have r1 : W0.cell? ⟨N, 1, none⟩ = some (.int .i64 y) := BR.out.cell 1 _ rfl
  have r2 : W0.cell? ⟨N, 2, none⟩ = some (.int .i64 v) := BR.out.cell 2 _ rfl
  by_cases hc0 : c = 0
  · subst hc0
    have d0 := BD.out.cell 0 _ rfl
    have d1 := BD.out.cell 1 _ rfl
    have d2 := BD.out.cell 2 _ rfl
    have d3 := BD.out.cell 3 _ rfl
    have e0 := BD.out.frozen 0
    have e1 := BD.out.frozen 1
    have e2 := BD.out.frozen 2
    have e3 := BD.out.frozen 3
    go_wp2_with fail
    refine Calls.mono (HKY.out W0) ?_
    rintro e w' ⟨rfl, hw'⟩
    have hw2 := hw'.symm
    subst hw2
    clear hw'
    go_wp2_with fail
    have HF : Hid (Blk (setL W0 (N + 1) 0 [.int .u64 (n : Int), .int .i64 2, .string t1, .string ⟨#[]⟩]) (N + 1) 32 [.int .u64 (n : Int), .int .i64 2, .string t1, .string ⟨#[]⟩]) := setL_blk [.int .u64 (n : Int), .int .i64 2, .string t1, .string ⟨#[]⟩] W0 0 [] [.int .u64 0, .int .i64 0, .string ⟨#[]⟩, .string ⟨#[]⟩] rfl rfl BD.out
    refine bodyPost_ret (results_cell_row rfl _ _ (N + 1) 32 #[.int .u64 (n : Int), .int .i64 2, .string t1, .string ⟨#[]⟩] (0, 0) _ rfl HF.out Try.underlying32 rfl (by kernel_rfl)) rfl ?_
    refine ⟨rfl, ?_⟩
    rw [HN.out] at *
    exact (((HB0.out.setCell (p := ⟨w.heap.size + 1, 0, none⟩) (by show w.heap.size ≤ w.heap.size + 1; omega) _).setCell (p := ⟨w.heap.size + 1, 1, none⟩) (by show w.heap.size ≤ w.heap.size + 1; omega) _).setCell (p := ⟨w.heap.size + 1, 2, none⟩) (by show w.heap.size ≤ w.heap.size + 1; omega) _).setCell (p := ⟨w.heap.size + 1, 3, none⟩) (by show w.heap.size ≤ w.heap.size + 1; omega) _
  · have hcf : ((c : Int) == 0) = false := by rw [beq_eq_false_iff_ne]; omega
    go_wp2_with fail
    go_region_with (first
      | (go_at_call 58; refine Calls.mono (HKY.out _) ?_; rintro e w' ⟨rfl, rfl⟩)
      | (go_at_call 59; refine Calls.mono (HVL.out _) ?_; rintro e w5 ⟨rfl, hb5⟩; have q1 : w5.cell? ⟨N, 1, none⟩ = some (.int .i64 y) := (hb5.cell (p := ⟨N, 1, none⟩) (by show N < W0.heap.size; omega)).trans r1; have q2 : w5.cell? ⟨N, 2, none⟩ = some (.int .i64 v) := (hb5.cell (p := ⟨N, 2, none⟩) (by show N < W0.heap.size; omega)).trans r2; have bd5 := BD.out.below (W' := w5) (n := W0.heap.size) (by omega) ⟨hb5.os, hb5.tape, hb5.output, hb5.size, hb5.block⟩; have d0 := bd5.cell 0 _ rfl; have d1 := bd5.cell 1 _ rfl; have d2 := bd5.cell 2 _ rfl; have d3 := bd5.cell 3 _ rfl; have e0 := bd5.frozen 0; have e1 := bd5.frozen 1; have e2 := bd5.frozen 2; have e3 := bd5.frozen 3; have HBD5 := hd bd5; have HB5 := hd hb5; clear bd5 hb5))
    all_goals
      go_wp2_with fail
      have HF : Hid (Blk (setL w5 (N + 1) 0 [.int .u64 (n : Int), .int .i64 1, .string t1, .string t2]) (N + 1) 32 [.int .u64 (n : Int), .int .i64 1, .string t1, .string t2]) := setL_blk [.int .u64 (n : Int), .int .i64 1, .string t1, .string t2] w5 0 [] [.int .u64 0, .int .i64 0, .string ⟨#[]⟩, .string ⟨#[]⟩] rfl rfl HBD5.out
      refine bodyPost_ret (results_cell_row rfl _ _ (N + 1) 32 #[.int .u64 (n : Int), .int .i64 1, .string t1, .string t2] (0, 0) _ rfl HF.out Try.underlying32 rfl (by kernel_rfl)) rfl ?_
      refine ⟨rfl, ?_⟩
      have hb5 : Below W0.heap.size W0 w5 := ⟨HB5.out.os, HB5.out.tape, HB5.out.output, HB5.out.size, HB5.out.block⟩
      have hb6 := HB0.out.trans (hb5.mono HB0.out.size)
      rw [HN.out]
      exact (((hb6.setCell (p := ⟨w.heap.size + 1, 0, none⟩) (by show w.heap.size ≤ w.heap.size + 1; omega) _).setCell (p := ⟨w.heap.size + 1, 1, none⟩) (by show w.heap.size ≤ w.heap.size + 1; omega) _).setCell (p := ⟨w.heap.size + 1, 2, none⟩) (by show w.heap.size ≤ w.heap.size + 1; omega) _).setCell (p := ⟨w.heap.size + 1, 3, none⟩) (by show w.heap.size ≤ w.heap.size + 1; omega) _
end Vt
end Go.Proofs.Ytlddogigbodilaa
