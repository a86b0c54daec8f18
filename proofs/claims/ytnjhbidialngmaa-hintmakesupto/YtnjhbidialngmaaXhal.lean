/-
  THE WALK OF frame.Decode: what 'dcd' says.
-/
import Derived.Test.YtnjhbidialngmaaXhah
import Derived.Test.YtnjhbidialngmaaXhai
import Derived.Test.YtnjhbidialngmaaXhak
namespace Go.Proofs.Ytnjhbidialngmaa
open Go.RowKit
namespace Vt
theorem readLen_is (b off c : Nat) (l : List Nat) (w : World) (hI : IsB w (.slice (some ⟨b, off, none⟩) l.length c) l) (h1 : 1 ≤ l.length) :
    Calls Try.prog 46 #[.slice (some ⟨b, off, none⟩) l.length c] w fun e w' => e = .returned (.tuple #[.int .i64 ((rl l).1 : Int), .int .i64 ((rl l).2 : Int)]) ∧ w' = w := by
  by_cases h : l.length = 1
  · exact readLen_one b off c l w hI h
  · exact readLen_more b off c l w hI (by omega)
theorem rl_ok {l : List Nat} {n : Nat} (h : rl l = (n, 0)) : l.getD 0 0 = 167 ∧ (∀ x ∈ dig l, x < 128) ∧ 4 ≤ l.length ∧ n = nm (dig l) ∧ n + 9 ≤ l.length ∧ n < 2097152 := by
  by_cases h1 : l.getD 0 0 = 167
  · by_cases h2 : ∀ x ∈ dig l, x < 128
    · by_cases h3 : l.length < 4 ∨ l.length < nm (dig l) + 9
      · rw [rl_43 h1 h2 h3] at h; injection h with _ h; omega
      · rw [rl_0 h1 h2 (by omega) (by omega)] at h
        injection h with h _
        have := dig_nm h2
        exact ⟨h1, h2, by omega, h.symm, by omega, by omega⟩
    · rw [rl_42 h1 h2] at h; injection h with _ h; omega
  · rw [rl_41 h1] at h; injection h with _ h; omega
theorem rl_err {l : List Nat} (h : (rl l).2 ≠ 0) : (rl l).1 = 0 := by
  unfold rl at h ⊢
  split
  · rfl
  · split
    · rfl
    · split
      · rfl
      · rename_i a b c
        rw [if_neg a, if_neg b, if_neg c] at h
        exact absurd rfl h
theorem nxt_zero (l : List Nat) : nxt l 0 = nx l := by unfold nxt frm; simp
open Classical in
/-- what Decode answers of the bytes from a place on -/
noncomputable def dcd (m : List Nat) : Fr × Nat × Nat :=
  if (rl m).2 ≠ 0 then (zf, 0, (rl m).2)
  else if nx ((m.drop 4).take (rl m).1) < (rl m).1 then (zf, 0, 45)
  else if ¬ ((∀ x ∈ (m.drop (4 + (rl m).1)).take 5, x < 128) ∧ nm ((m.drop (4 + (rl m).1)).take 5) = Crc.go 0 ((m.drop 1).take (3 + (rl m).1))) then (zf, 0, 44)
  else match opF ((m.drop 4).take (rl m).1) with
    | none => (zf, 0, 45)
    | some f => (f, (rl m).1 + 9, 0)
noncomputable def decF (l : List Nat) (z : Int) : Fr × Nat × Nat := if z < 0 ∨ (l.length : Int) ≤ z then (zf, 0, 40) else dcd (l.drop z.toNat)
def dval (d : Fr × Nat × Nat) : Value := .tuple #[.agg (fv d.1), .int .i64 (d.2.1 : Int), .int .i64 (d.2.2 : Int)]
theorem dval_zf (n e : Nat) : dval (zf, n, e) = .tuple #[.agg #[.int .i64 0, .int .u64 0, .int .i64 0, .string ⟨#[]⟩, .string ⟨#[]⟩, .int .u64 0, .int .i64 0, .int .i64 0, .int .i64 0, .string ⟨#[]⟩, .int .i64 0, .int .i64 0, .int .i64 0, .int .u32 0], .int .i64 (n : Int), .int .i64 (e : Int)] := rfl
set_option maxRecDepth 100000 in
set_option maxHeartbeats 800000 in
theorem decF_arg (v : Value) (l : List Nat) (z : Int) (w : World) (hI : IsB w v l) (h : z < 0 ∨ (l.length : Int) ≤ z) :
    Calls Try.prog 22 #[v, .int .i64 z] w fun e w' => e = .returned (dval (zf, 0, 40)) ∧ Below w.heap.size w w' := by
  have HOV := hd (dval_zf 0 40)
  obtain ⟨a, c, rfl⟩ := hI.shape
  clear hI
  by_cases h0 : z < 0
  · go_enter Try.func22, Try.ntmps22
    go_wp2_with fail
    have HF : Hid (Blk (w.alloc (.cells #[.int .i64 0, .int .u64 0, .int .i64 0, .string ⟨#[]⟩, .string ⟨#[]⟩, .int .u64 0, .int .i64 0, .int .i64 0, .int .i64 0, .string ⟨#[]⟩, .int .i64 0, .int .i64 0, .int .i64 0, .int .u32 0] 34)) w.heap.size 34 [.int .i64 0, .int .u64 0, .int .i64 0, .string ⟨#[]⟩, .string ⟨#[]⟩, .int .u64 0, .int .i64 0, .int .i64 0, .int .i64 0, .string ⟨#[]⟩, .int .i64 0, .int .i64 0, .int .i64 0, .int .u32 0]) := Blk.new w _ _
    refine bodyPost_ret (results_cell3 rfl _ _ w.heap.size 34 #[.int .i64 0, .int .u64 0, .int .i64 0, .string ⟨#[]⟩, .string ⟨#[]⟩, .int .u64 0, .int .i64 0, .int .i64 0, .int .i64 0, .string ⟨#[]⟩, .int .i64 0, .int .i64 0, .int .i64 0, .int .u32 0] (0, 0) _ rfl HF.out Try.underlying34 rfl (by kernel_rfl)) rfl ?_
    exact ⟨by rw [HOV.out]; rfl, (Below.refl _ _).alloc (Nat.le_refl _) _⟩
  · have h1 : (l.length : Int) ≤ z := by omega
    go_enter Try.func22, Try.ntmps22
    go_wp2_with fail
    have HF : Hid (Blk (w.alloc (.cells #[.int .i64 0, .int .u64 0, .int .i64 0, .string ⟨#[]⟩, .string ⟨#[]⟩, .int .u64 0, .int .i64 0, .int .i64 0, .int .i64 0, .string ⟨#[]⟩, .int .i64 0, .int .i64 0, .int .i64 0, .int .u32 0] 34)) w.heap.size 34 [.int .i64 0, .int .u64 0, .int .i64 0, .string ⟨#[]⟩, .string ⟨#[]⟩, .int .u64 0, .int .i64 0, .int .i64 0, .int .i64 0, .string ⟨#[]⟩, .int .i64 0, .int .i64 0, .int .i64 0, .int .u32 0]) := Blk.new w _ _
    refine bodyPost_ret (results_cell3 rfl _ _ w.heap.size 34 #[.int .i64 0, .int .u64 0, .int .i64 0, .string ⟨#[]⟩, .string ⟨#[]⟩, .int .u64 0, .int .i64 0, .int .i64 0, .int .i64 0, .string ⟨#[]⟩, .int .i64 0, .int .i64 0, .int .i64 0, .int .u32 0] (0, 0) _ rfl HF.out Try.underlying34 rfl (by kernel_rfl)) rfl ?_
    exact ⟨by rw [HOV.out]; rfl, (Below.refl _ _).alloc (Nat.le_refl _) _⟩
set_option maxRecDepth 100000 in
set_option maxHeartbeats 800000 in
theorem decF_len (b off c a : Nat) (l : List Nat) (w : World) (hI : IsB w (.slice (some ⟨b, off, none⟩) l.length c) l) (ha : a < l.length) (h : (rl (l.drop a)).2 ≠ 0) :
    Calls Try.prog 22 #[.slice (some ⟨b, off, none⟩) l.length c, .int .i64 (a : Int)] w fun e w' => e = .returned (dval (zf, 0, (rl (l.drop a)).2)) ∧ Below w.heap.size w w' := by
  have hcap := hI.cap
  have hcm : c ≤ maxLen := by
    obtain ⟨_, _, ⟨rfl, _⟩ | ⟨b', off', c', e, _, q, _⟩⟩ := hI
    · simp at ha
    · injection e with e1 e2 e3
      omega
  unfold maxLen at hcm
  have HI0 := hd ((hI.drop a (by omega) (off + a) (l.length - a) (c - a) (fun _ => rfl) rfl rfl).below ((Below.refl _ _).alloc (Nat.le_refl _) (.cells #[.int .i64 0, .int .u64 0, .int .i64 0, .string ⟨#[]⟩, .string ⟨#[]⟩, .int .u64 0, .int .i64 0, .int .i64 0, .int .i64 0, .string ⟨#[]⟩, .int .i64 0, .int .i64 0, .int .i64 0, .int .u32 0] 34)))
  have hml : (l.drop a).length = l.length - a := List.length_drop
  have HC := hd (readLen_is b (off + a) (c - a) (l.drop a) _ (by rw [hml]; exact HI0.out) (by rw [hml]; omega))
  rw [hml] at HC
  have HML := hd hml
  clear hml hI
  generalize l.drop a = m at *
  have HOV := hd (dval_zf 0 (rl m).2)
  rw [rl_err h] at HC
  generalize (rl m).2 = er at *
  have hq : (((er : Nat) : Int) != 0) = true := by simp; omega
  go_enter Try.func22, Try.ntmps22
  go_wp2_with fail
  refine Calls.mono HC.out ?_
  rintro e w' ⟨rfl, hw'⟩
  subst hw'
  clear HC
  go_wp2_with fail
  have HF : Hid (Blk (w.alloc (.cells #[.int .i64 0, .int .u64 0, .int .i64 0, .string ⟨#[]⟩, .string ⟨#[]⟩, .int .u64 0, .int .i64 0, .int .i64 0, .int .i64 0, .string ⟨#[]⟩, .int .i64 0, .int .i64 0, .int .i64 0, .int .u32 0] 34)) w.heap.size 34 [.int .i64 0, .int .u64 0, .int .i64 0, .string ⟨#[]⟩, .string ⟨#[]⟩, .int .u64 0, .int .i64 0, .int .i64 0, .int .i64 0, .string ⟨#[]⟩, .int .i64 0, .int .i64 0, .int .i64 0, .int .u32 0]) := Blk.new w _ _
  refine bodyPost_ret (results_cell3 rfl _ _ w.heap.size 34 #[.int .i64 0, .int .u64 0, .int .i64 0, .string ⟨#[]⟩, .string ⟨#[]⟩, .int .u64 0, .int .i64 0, .int .i64 0, .int .i64 0, .string ⟨#[]⟩, .int .i64 0, .int .i64 0, .int .i64 0, .int .u32 0] (0, 0) _ rfl HF.out Try.underlying34 rfl (by kernel_rfl)) rfl ?_
  exact ⟨by rw [HOV.out]; rfl, (Below.refl _ _).alloc (Nat.le_refl _) _⟩
set_option maxRecDepth 100000 in
set_option maxHeartbeats 800000 in
theorem decF_lead (b off c a : Nat) (l : List Nat) (w : World) (hI : IsB w (.slice (some ⟨b, off, none⟩) l.length c) l) (ha : a < l.length) (n : Nat) (hn : rl (l.drop a) = (n, 0)) (h : nx (((l.drop a).drop 4).take n) < n) :
    Calls Try.prog 22 #[.slice (some ⟨b, off, none⟩) l.length c, .int .i64 (a : Int)] w fun e w' => e = .returned (dval (zf, 0, 45)) ∧ Below w.heap.size w w' := by
  have hcap := hI.cap
  have hcm : c ≤ maxLen := by
    obtain ⟨_, _, ⟨rfl, _⟩ | ⟨b', off', c', e, _, q, _⟩⟩ := hI
    · simp at ha
    · injection e with e1 e2 e3
      omega
  unfold maxLen at hcm
  have HI0 := hd ((hI.drop a (by omega) (off + a) (l.length - a) (c - a) (fun _ => rfl) rfl rfl).below ((Below.refl _ _).alloc (Nat.le_refl _) (.cells #[.int .i64 0, .int .u64 0, .int .i64 0, .string ⟨#[]⟩, .string ⟨#[]⟩, .int .u64 0, .int .i64 0, .int .i64 0, .int .i64 0, .string ⟨#[]⟩, .int .i64 0, .int .i64 0, .int .i64 0, .int .u32 0] 34)))
  have hml : (l.drop a).length = l.length - a := List.length_drop
  have HC := hd (readLen_is b (off + a) (c - a) (l.drop a) _ (by rw [hml]; exact HI0.out) (by rw [hml]; omega))
  rw [hml] at HC
  have HML := hd hml
  clear hml hI
  generalize l.drop a = m at *
  rw [hn] at HC
  have hn9 := (rl_ok hn).2.2.2.2.1
  have hn2 := (rl_ok hn).2.2.2.2.2
  rw [HML.out] at hn9
  clear hn
  have HIE : Hid (IsB (w.alloc (.cells #[.int .i64 0, .int .u64 0, .int .i64 0, .string ⟨#[]⟩, .string ⟨#[]⟩, .int .u64 0, .int .i64 0, .int .i64 0, .int .i64 0, .string ⟨#[]⟩, .int .i64 0, .int .i64 0, .int .i64 0, .int .u32 0] 34)) (.slice (some ⟨b, off + a + 4, none⟩) n (c - a - 4)) ((m.drop 4).take n)) := (HI0.out.drop 4 (by omega) (off + a + 4) (l.length - a - 4) (c - a - 4) (fun _ => rfl) rfl rfl).take n (by rw [List.length_drop, HML.out]; omega)
  have hel : ((m.drop 4).take n).length = n := by rw [List.length_take, List.length_drop, HML.out]; omega
  have HNX := hd (next_row b (off + a + 4) (c - a - 4) ((m.drop 4).take n) 0 (w.alloc (.cells #[.int .i64 0, .int .u64 0, .int .i64 0, .string ⟨#[]⟩, .string ⟨#[]⟩, .int .u64 0, .int .i64 0, .int .i64 0, .int .i64 0, .string ⟨#[]⟩, .int .i64 0, .int .i64 0, .int .i64 0, .int .u32 0] 34)) HIE.out.1 HIE.out.row (by rw [hel]; omega) (by unfold maxLen; omega))
  rw [hel, nxt_zero] at HNX
  have HEL := hd hel
  clear hel
  generalize (m.drop 4).take n = E at *
  have HOV := hd (dval_zf 0 45)
  generalize nx E = q at *
  go_enter Try.func22, Try.ntmps22
  go_wp2_with fail
  refine Calls.mono HC.out ?_
  rintro e w' ⟨rfl, hw'⟩
  subst hw'
  clear HC
  go_wp2_with fail
  refine Calls.mono HNX.out ?_
  rintro e w' ⟨rfl, hw'⟩
  subst hw'
  clear HNX
  go_wp2_with fail
  have HF : Hid (Blk (w.alloc (.cells #[.int .i64 0, .int .u64 0, .int .i64 0, .string ⟨#[]⟩, .string ⟨#[]⟩, .int .u64 0, .int .i64 0, .int .i64 0, .int .i64 0, .string ⟨#[]⟩, .int .i64 0, .int .i64 0, .int .i64 0, .int .u32 0] 34)) w.heap.size 34 [.int .i64 0, .int .u64 0, .int .i64 0, .string ⟨#[]⟩, .string ⟨#[]⟩, .int .u64 0, .int .i64 0, .int .i64 0, .int .i64 0, .string ⟨#[]⟩, .int .i64 0, .int .i64 0, .int .i64 0, .int .u32 0]) := Blk.new w _ _
  refine bodyPost_ret (results_cell3 rfl _ _ w.heap.size 34 #[.int .i64 0, .int .u64 0, .int .i64 0, .string ⟨#[]⟩, .string ⟨#[]⟩, .int .u64 0, .int .i64 0, .int .i64 0, .int .i64 0, .string ⟨#[]⟩, .int .i64 0, .int .i64 0, .int .i64 0, .int .u32 0] (0, 0) _ rfl HF.out Try.underlying34 rfl (by kernel_rfl)) rfl ?_
  exact ⟨by rw [HOV.out]; rfl, (Below.refl _ _).alloc (Nat.le_refl _) _⟩
set_option maxRecDepth 100000 in
set_option maxHeartbeats 800000 in
theorem decF_dig (b off c a : Nat) (l : List Nat) (w : World) (hI : IsB w (.slice (some ⟨b, off, none⟩) l.length c) l) (ha : a < l.length) (n : Nat) (hn : rl (l.drop a) = (n, 0)) (h : ¬ nx (((l.drop a).drop 4).take n) < n) (hd5 : ¬ ∀ x ∈ ((l.drop a).drop (4 + n)).take 5, x < 128) :
    Calls Try.prog 22 #[.slice (some ⟨b, off, none⟩) l.length c, .int .i64 (a : Int)] w fun e w' => e = .returned (dval (zf, 0, 44)) ∧ Below w.heap.size w w' := by
  have hcap := hI.cap
  have hcm : c ≤ maxLen := by
    obtain ⟨_, _, ⟨rfl, _⟩ | ⟨b', off', c', e, _, q, _⟩⟩ := hI
    · simp at ha
    · injection e with e1 e2 e3
      omega
  unfold maxLen at hcm
  have HI0 := hd ((hI.drop a (by omega) (off + a) (l.length - a) (c - a) (fun _ => rfl) rfl rfl).below ((Below.refl _ _).alloc (Nat.le_refl _) (.cells #[.int .i64 0, .int .u64 0, .int .i64 0, .string ⟨#[]⟩, .string ⟨#[]⟩, .int .u64 0, .int .i64 0, .int .i64 0, .int .i64 0, .string ⟨#[]⟩, .int .i64 0, .int .i64 0, .int .i64 0, .int .u32 0] 34)))
  have hml : (l.drop a).length = l.length - a := List.length_drop
  have HC := hd (readLen_is b (off + a) (c - a) (l.drop a) _ (by rw [hml]; exact HI0.out) (by rw [hml]; omega))
  rw [hml] at HC
  have HML := hd hml
  clear hml hI
  generalize l.drop a = m at *
  rw [hn] at HC
  have hn9 := (rl_ok hn).2.2.2.2.1
  have hn2 := (rl_ok hn).2.2.2.2.2
  rw [HML.out] at hn9
  clear hn
  have HIE : Hid (IsB (w.alloc (.cells #[.int .i64 0, .int .u64 0, .int .i64 0, .string ⟨#[]⟩, .string ⟨#[]⟩, .int .u64 0, .int .i64 0, .int .i64 0, .int .i64 0, .string ⟨#[]⟩, .int .i64 0, .int .i64 0, .int .i64 0, .int .u32 0] 34)) (.slice (some ⟨b, off + a + 4, none⟩) n (c - a - 4)) ((m.drop 4).take n)) := (HI0.out.drop 4 (by omega) (off + a + 4) (l.length - a - 4) (c - a - 4) (fun _ => rfl) rfl rfl).take n (by rw [List.length_drop, HML.out]; omega)
  have hel : ((m.drop 4).take n).length = n := by rw [List.length_take, List.length_drop, HML.out]; omega
  have HNX := hd (next_row b (off + a + 4) (c - a - 4) ((m.drop 4).take n) 0 (w.alloc (.cells #[.int .i64 0, .int .u64 0, .int .i64 0, .string ⟨#[]⟩, .string ⟨#[]⟩, .int .u64 0, .int .i64 0, .int .i64 0, .int .i64 0, .string ⟨#[]⟩, .int .i64 0, .int .i64 0, .int .i64 0, .int .u32 0] 34)) HIE.out.1 HIE.out.row (by rw [hel]; omega) (by unfold maxLen; omega))
  rw [hel, nxt_zero] at HNX
  have HEL := hd hel
  clear hel
  generalize (m.drop 4).take n = E at *
  have hnx : nx E = n := by have := nx_le E; rw [HEL.out] at this; omega
  rw [hnx] at HNX
  clear h hnx
  have HIT : Hid (IsB (w.alloc (.cells #[.int .i64 0, .int .u64 0, .int .i64 0, .string ⟨#[]⟩, .string ⟨#[]⟩, .int .u64 0, .int .i64 0, .int .i64 0, .int .i64 0, .string ⟨#[]⟩, .int .i64 0, .int .i64 0, .int .i64 0, .int .u32 0] 34)) (.slice (some ⟨b, off + a + (4 + n), none⟩) (l.length - a - (4 + n)) (c - a - (4 + n))) (m.drop (4 + n))) := HI0.out.drop (4 + n) (by omega) (off + a + (4 + n)) (l.length - a - (4 + n)) (c - a - (4 + n)) (fun _ => rfl) rfl rfl
  have hlt5 : 5 ≤ (m.drop (4 + n)).length := by rw [List.length_drop, HML.out]; omega
  have HNU := hd (number_is _ 5 _ (w.alloc (.cells #[.int .i64 0, .int .u64 0, .int .i64 0, .string ⟨#[]⟩, .string ⟨#[]⟩, .int .u64 0, .int .i64 0, .int .i64 0, .int .i64 0, .string ⟨#[]⟩, .int .i64 0, .int .i64 0, .int .i64 0, .int .u32 0] 34)) HIT.out (by omega) (by omega) hlt5)
  clear hlt5
  have HOV := hd (dval_zf 0 44)
  rw [numAns_bad hd5] at HNU
  clear hd5
  go_enter Try.func22, Try.ntmps22
  go_wp2_with fail
  refine Calls.mono HC.out ?_
  rintro e w' ⟨rfl, hw'⟩
  subst hw'
  clear HC
  go_wp2_with fail
  refine Calls.mono HNX.out ?_
  rintro e w' ⟨rfl, hw'⟩
  subst hw'
  clear HNX
  go_wp2_with fail
  refine Calls.mono HNU.out ?_
  rintro e w' ⟨rfl, hw'⟩
  subst hw'
  clear HNU
  go_wp2_with fail
  have HF : Hid (Blk (w.alloc (.cells #[.int .i64 0, .int .u64 0, .int .i64 0, .string ⟨#[]⟩, .string ⟨#[]⟩, .int .u64 0, .int .i64 0, .int .i64 0, .int .i64 0, .string ⟨#[]⟩, .int .i64 0, .int .i64 0, .int .i64 0, .int .u32 0] 34)) w.heap.size 34 [.int .i64 0, .int .u64 0, .int .i64 0, .string ⟨#[]⟩, .string ⟨#[]⟩, .int .u64 0, .int .i64 0, .int .i64 0, .int .i64 0, .string ⟨#[]⟩, .int .i64 0, .int .i64 0, .int .i64 0, .int .u32 0]) := Blk.new w _ _
  refine bodyPost_ret (results_cell3 rfl _ _ w.heap.size 34 #[.int .i64 0, .int .u64 0, .int .i64 0, .string ⟨#[]⟩, .string ⟨#[]⟩, .int .u64 0, .int .i64 0, .int .i64 0, .int .i64 0, .string ⟨#[]⟩, .int .i64 0, .int .i64 0, .int .i64 0, .int .u32 0] (0, 0) _ rfl HF.out Try.underlying34 rfl (by kernel_rfl)) rfl ?_
  exact ⟨by rw [HOV.out]; rfl, (Below.refl _ _).alloc (Nat.le_refl _) _⟩
set_option maxRecDepth 100000 in
set_option maxHeartbeats 800000 in
theorem decF_sum (b off c a : Nat) (l : List Nat) (w : World) (hI : IsB w (.slice (some ⟨b, off, none⟩) l.length c) l) (ha : a < l.length) (n : Nat) (hn : rl (l.drop a) = (n, 0)) (h : ¬ nx (((l.drop a).drop 4).take n) < n) (hd5 : ∀ x ∈ ((l.drop a).drop (4 + n)).take 5, x < 128) (hs : nm (((l.drop a).drop (4 + n)).take 5) ≠ Crc.go 0 (((l.drop a).drop 1).take (3 + n))) :
    Calls Try.prog 22 #[.slice (some ⟨b, off, none⟩) l.length c, .int .i64 (a : Int)] w fun e w' => e = .returned (dval (zf, 0, 44)) ∧ Below w.heap.size w w' := by
  have hcap := hI.cap
  have hcm : c ≤ maxLen := by
    obtain ⟨_, _, ⟨rfl, _⟩ | ⟨b', off', c', e, _, q, _⟩⟩ := hI
    · simp at ha
    · injection e with e1 e2 e3
      omega
  unfold maxLen at hcm
  have HI0 := hd ((hI.drop a (by omega) (off + a) (l.length - a) (c - a) (fun _ => rfl) rfl rfl).below ((Below.refl _ _).alloc (Nat.le_refl _) (.cells #[.int .i64 0, .int .u64 0, .int .i64 0, .string ⟨#[]⟩, .string ⟨#[]⟩, .int .u64 0, .int .i64 0, .int .i64 0, .int .i64 0, .string ⟨#[]⟩, .int .i64 0, .int .i64 0, .int .i64 0, .int .u32 0] 34)))
  have hml : (l.drop a).length = l.length - a := List.length_drop
  have HC := hd (readLen_is b (off + a) (c - a) (l.drop a) _ (by rw [hml]; exact HI0.out) (by rw [hml]; omega))
  rw [hml] at HC
  have HML := hd hml
  clear hml hI
  generalize l.drop a = m at *
  rw [hn] at HC
  have hn9 := (rl_ok hn).2.2.2.2.1
  have hn2 := (rl_ok hn).2.2.2.2.2
  rw [HML.out] at hn9
  clear hn
  have HIE : Hid (IsB (w.alloc (.cells #[.int .i64 0, .int .u64 0, .int .i64 0, .string ⟨#[]⟩, .string ⟨#[]⟩, .int .u64 0, .int .i64 0, .int .i64 0, .int .i64 0, .string ⟨#[]⟩, .int .i64 0, .int .i64 0, .int .i64 0, .int .u32 0] 34)) (.slice (some ⟨b, off + a + 4, none⟩) n (c - a - 4)) ((m.drop 4).take n)) := (HI0.out.drop 4 (by omega) (off + a + 4) (l.length - a - 4) (c - a - 4) (fun _ => rfl) rfl rfl).take n (by rw [List.length_drop, HML.out]; omega)
  have hel : ((m.drop 4).take n).length = n := by rw [List.length_take, List.length_drop, HML.out]; omega
  have HNX := hd (next_row b (off + a + 4) (c - a - 4) ((m.drop 4).take n) 0 (w.alloc (.cells #[.int .i64 0, .int .u64 0, .int .i64 0, .string ⟨#[]⟩, .string ⟨#[]⟩, .int .u64 0, .int .i64 0, .int .i64 0, .int .i64 0, .string ⟨#[]⟩, .int .i64 0, .int .i64 0, .int .i64 0, .int .u32 0] 34)) HIE.out.1 HIE.out.row (by rw [hel]; omega) (by unfold maxLen; omega))
  rw [hel, nxt_zero] at HNX
  have HEL := hd hel
  clear hel
  generalize (m.drop 4).take n = E at *
  have hnx : nx E = n := by have := nx_le E; rw [HEL.out] at this; omega
  rw [hnx] at HNX
  clear h hnx
  have HIT : Hid (IsB (w.alloc (.cells #[.int .i64 0, .int .u64 0, .int .i64 0, .string ⟨#[]⟩, .string ⟨#[]⟩, .int .u64 0, .int .i64 0, .int .i64 0, .int .i64 0, .string ⟨#[]⟩, .int .i64 0, .int .i64 0, .int .i64 0, .int .u32 0] 34)) (.slice (some ⟨b, off + a + (4 + n), none⟩) (l.length - a - (4 + n)) (c - a - (4 + n))) (m.drop (4 + n))) := HI0.out.drop (4 + n) (by omega) (off + a + (4 + n)) (l.length - a - (4 + n)) (c - a - (4 + n)) (fun _ => rfl) rfl rfl
  have hlt5 : 5 ≤ (m.drop (4 + n)).length := by rw [List.length_drop, HML.out]; omega
  have HNU := hd (number_is _ 5 _ (w.alloc (.cells #[.int .i64 0, .int .u64 0, .int .i64 0, .string ⟨#[]⟩, .string ⟨#[]⟩, .int .u64 0, .int .i64 0, .int .i64 0, .int .i64 0, .string ⟨#[]⟩, .int .i64 0, .int .i64 0, .int .i64 0, .int .u32 0] 34)) HIT.out (by omega) (by omega) hlt5)
  clear hlt5
  have HIM : Hid (IsB (w.alloc (.cells #[.int .i64 0, .int .u64 0, .int .i64 0, .string ⟨#[]⟩, .string ⟨#[]⟩, .int .u64 0, .int .i64 0, .int .i64 0, .int .i64 0, .string ⟨#[]⟩, .int .i64 0, .int .i64 0, .int .i64 0, .int .u32 0] 34)) (.slice (some ⟨b, off + a + 1, none⟩) (3 + n) (c - a - 1)) ((m.drop 1).take (3 + n))) := (HI0.out.drop 1 (by omega) (off + a + 1) (l.length - a - 1) (c - a - 1) (fun _ => rfl) rfl rfl).take (3 + n) (by rw [List.length_drop, HML.out]; omega)
  rw [numAns_ok hd5] at HNU
  have hnm : nm ((m.drop (4 + n)).take 5) < 34359738368 := by
    have h1 := nm_lt hd5
    have h2 : (128 : Nat) ^ ((m.drop (4 + n)).take 5).length ≤ 128 ^ 5 := Nat.pow_le_pow_right (by omega) (by rw [List.length_take]; omega)
    have h3 : (128 : Nat) ^ 5 = 34359738368 := by decide
    omega
  clear hd5
  have HSM := hd (sum_one (w.alloc (.cells #[.int .i64 0, .int .u64 0, .int .i64 0, .string ⟨#[]⟩, .string ⟨#[]⟩, .int .u64 0, .int .i64 0, .int .i64 0, .int .i64 0, .string ⟨#[]⟩, .int .i64 0, .int .i64 0, .int .i64 0, .int .u32 0] 34)) _ rfl _ _ HIM.out)
  have hcr := Crc.go_lt 0 ((m.drop 1).take (3 + n))
  have HA0 : Hid (Blk (w.alloc (.cells #[.int .i64 0, .int .u64 0, .int .i64 0, .string ⟨#[]⟩, .string ⟨#[]⟩, .int .u64 0, .int .i64 0, .int .i64 0, .int .i64 0, .string ⟨#[]⟩, .int .i64 0, .int .i64 0, .int .i64 0, .int .u32 0] 34)) w.heap.size 34 [.int .i64 0, .int .u64 0, .int .i64 0, .string ⟨#[]⟩, .string ⟨#[]⟩, .int .u64 0, .int .i64 0, .int .i64 0, .int .i64 0, .string ⟨#[]⟩, .int .i64 0, .int .i64 0, .int .i64 0, .int .u32 0]) := Blk.new w _ _
  generalize nm ((m.drop (4 + n)).take 5) = T at *
  generalize Crc.go 0 ((m.drop 1).take (3 + n)) = S at *
  have HOV := hd (dval_zf 0 44)
  have hq : (((T : Nat) : Int) != ((S : Nat) : Int)) = true := by simp; omega
  go_enter Try.func22, Try.ntmps22
  go_wp2_with fail
  refine Calls.mono HC.out ?_
  rintro e w' ⟨rfl, hw'⟩
  subst hw'
  clear HC
  go_wp2_with fail
  refine Calls.mono HNX.out ?_
  rintro e w' ⟨rfl, hw'⟩
  subst hw'
  clear HNX
  go_wp2_with fail
  refine Calls.mono HNU.out ?_
  rintro e w' ⟨rfl, hw'⟩
  subst hw'
  clear HNU
  go_wp2_with fail
  rw [World.size_alloc] at HSM
  refine Calls.mono HSM.out ?_
  rintro e w1 ⟨rfl, hb⟩
  have hs1 := hb.size
  rw [World.size_alloc] at hs1
  have HA1 := hd (HA0.out.keep (by rw [World.size_alloc]; exact hb))
  have HB1 := hd (below_alloc1 (o := .cells #[.int .i64 0, .int .u64 0, .int .i64 0, .string ⟨#[]⟩, .string ⟨#[]⟩, .int .u64 0, .int .i64 0, .int .i64 0, .int .i64 0, .string ⟨#[]⟩, .int .i64 0, .int .i64 0, .int .i64 0, .int .u32 0] 34) (by rw [World.size_alloc]; exact hb))
  have HE1 := hd (HIE.out.below (by rw [World.size_alloc]; exact hb))
  clear hb HA0 HIE HSM
  have a0 := HA1.out.cell 0 _ rfl
  have az0 := HA1.out.frozen 0
  have a1 := HA1.out.cell 1 _ rfl
  have az1 := HA1.out.frozen 1
  have a2 := HA1.out.cell 2 _ rfl
  have az2 := HA1.out.frozen 2
  have a3 := HA1.out.cell 3 _ rfl
  have az3 := HA1.out.frozen 3
  have a4 := HA1.out.cell 4 _ rfl
  have az4 := HA1.out.frozen 4
  have a5 := HA1.out.cell 5 _ rfl
  have az5 := HA1.out.frozen 5
  have a6 := HA1.out.cell 6 _ rfl
  have az6 := HA1.out.frozen 6
  have a7 := HA1.out.cell 7 _ rfl
  have az7 := HA1.out.frozen 7
  have a8 := HA1.out.cell 8 _ rfl
  have az8 := HA1.out.frozen 8
  have a9 := HA1.out.cell 9 _ rfl
  have az9 := HA1.out.frozen 9
  have a10 := HA1.out.cell 10 _ rfl
  have az10 := HA1.out.frozen 10
  have a11 := HA1.out.cell 11 _ rfl
  have az11 := HA1.out.frozen 11
  have a12 := HA1.out.cell 12 _ rfl
  have az12 := HA1.out.frozen 12
  have a13 := HA1.out.cell 13 _ rfl
  have az13 := HA1.out.frozen 13
  go_wp2_with fail
  have HF : Hid (Blk (setL w1 w.heap.size 0 [.int .i64 0, .int .u64 0, .int .i64 0, .string ⟨#[]⟩, .string ⟨#[]⟩, .int .u64 0, .int .i64 0, .int .i64 0, .int .i64 0, .string ⟨#[]⟩, .int .i64 0, .int .i64 0, .int .i64 0, .int .u32 0]) w.heap.size 34 [.int .i64 0, .int .u64 0, .int .i64 0, .string ⟨#[]⟩, .string ⟨#[]⟩, .int .u64 0, .int .i64 0, .int .i64 0, .int .i64 0, .string ⟨#[]⟩, .int .i64 0, .int .i64 0, .int .i64 0, .int .u32 0]) := setL_blk [.int .i64 0, .int .u64 0, .int .i64 0, .string ⟨#[]⟩, .string ⟨#[]⟩, .int .u64 0, .int .i64 0, .int .i64 0, .int .i64 0, .string ⟨#[]⟩, .int .i64 0, .int .i64 0, .int .i64 0, .int .u32 0] _ 0 [] [.int .i64 0, .int .u64 0, .int .i64 0, .string ⟨#[]⟩, .string ⟨#[]⟩, .int .u64 0, .int .i64 0, .int .i64 0, .int .i64 0, .string ⟨#[]⟩, .int .i64 0, .int .i64 0, .int .i64 0, .int .u32 0] rfl rfl HA1.out
  refine bodyPost_ret (results_cell3 rfl _ _ w.heap.size 34 #[.int .i64 0, .int .u64 0, .int .i64 0, .string ⟨#[]⟩, .string ⟨#[]⟩, .int .u64 0, .int .i64 0, .int .i64 0, .int .i64 0, .string ⟨#[]⟩, .int .i64 0, .int .i64 0, .int .i64 0, .int .u32 0] (0, 0) _ rfl HF.out Try.underlying34 rfl (by kernel_rfl)) rfl ?_
  exact ⟨by rw [HOV.out]; rfl, (setL_keepO (B := w.heap.size) (O := w.heap.size) [.int .i64 0, .int .u64 0, .int .i64 0, .string ⟨#[]⟩, .string ⟨#[]⟩, .int .u64 0, .int .i64 0, .int .i64 0, .int .i64 0, .string ⟨#[]⟩, .int .i64 0, .int .i64 0, .int .i64 0, .int .u32 0] _ w 0 (Nat.le_refl _) (KeepO.of_below HB1.out)).below (Nat.le_refl _) (Nat.le_refl _)⟩
set_option maxRecDepth 100000 in
set_option maxHeartbeats 800000 in
theorem decF_none (b off c a : Nat) (l : List Nat) (w : World) (hI : IsB w (.slice (some ⟨b, off, none⟩) l.length c) l) (ha : a < l.length) (n : Nat) (hn : rl (l.drop a) = (n, 0)) (h : ¬ nx (((l.drop a).drop 4).take n) < n) (hd5 : ∀ x ∈ ((l.drop a).drop (4 + n)).take 5, x < 128) (hs : nm (((l.drop a).drop (4 + n)).take 5) = Crc.go 0 (((l.drop a).drop 1).take (3 + n))) (ho : opF (((l.drop a).drop 4).take n) = none) :
    Calls Try.prog 22 #[.slice (some ⟨b, off, none⟩) l.length c, .int .i64 (a : Int)] w fun e w' => e = .returned (dval (zf, 0, 45)) ∧ Below w.heap.size w w' := by
  have hcap := hI.cap
  have hcm : c ≤ maxLen := by
    obtain ⟨_, _, ⟨rfl, _⟩ | ⟨b', off', c', e, _, q, _⟩⟩ := hI
    · simp at ha
    · injection e with e1 e2 e3
      omega
  unfold maxLen at hcm
  have HI0 := hd ((hI.drop a (by omega) (off + a) (l.length - a) (c - a) (fun _ => rfl) rfl rfl).below ((Below.refl _ _).alloc (Nat.le_refl _) (.cells #[.int .i64 0, .int .u64 0, .int .i64 0, .string ⟨#[]⟩, .string ⟨#[]⟩, .int .u64 0, .int .i64 0, .int .i64 0, .int .i64 0, .string ⟨#[]⟩, .int .i64 0, .int .i64 0, .int .i64 0, .int .u32 0] 34)))
  have hml : (l.drop a).length = l.length - a := List.length_drop
  have HC := hd (readLen_is b (off + a) (c - a) (l.drop a) _ (by rw [hml]; exact HI0.out) (by rw [hml]; omega))
  rw [hml] at HC
  have HML := hd hml
  clear hml hI
  generalize l.drop a = m at *
  rw [hn] at HC
  have hn9 := (rl_ok hn).2.2.2.2.1
  have hn2 := (rl_ok hn).2.2.2.2.2
  rw [HML.out] at hn9
  clear hn
  have HIE : Hid (IsB (w.alloc (.cells #[.int .i64 0, .int .u64 0, .int .i64 0, .string ⟨#[]⟩, .string ⟨#[]⟩, .int .u64 0, .int .i64 0, .int .i64 0, .int .i64 0, .string ⟨#[]⟩, .int .i64 0, .int .i64 0, .int .i64 0, .int .u32 0] 34)) (.slice (some ⟨b, off + a + 4, none⟩) n (c - a - 4)) ((m.drop 4).take n)) := (HI0.out.drop 4 (by omega) (off + a + 4) (l.length - a - 4) (c - a - 4) (fun _ => rfl) rfl rfl).take n (by rw [List.length_drop, HML.out]; omega)
  have hel : ((m.drop 4).take n).length = n := by rw [List.length_take, List.length_drop, HML.out]; omega
  have HNX := hd (next_row b (off + a + 4) (c - a - 4) ((m.drop 4).take n) 0 (w.alloc (.cells #[.int .i64 0, .int .u64 0, .int .i64 0, .string ⟨#[]⟩, .string ⟨#[]⟩, .int .u64 0, .int .i64 0, .int .i64 0, .int .i64 0, .string ⟨#[]⟩, .int .i64 0, .int .i64 0, .int .i64 0, .int .u32 0] 34)) HIE.out.1 HIE.out.row (by rw [hel]; omega) (by unfold maxLen; omega))
  rw [hel, nxt_zero] at HNX
  have HEL := hd hel
  clear hel
  generalize (m.drop 4).take n = E at *
  have hnx : nx E = n := by have := nx_le E; rw [HEL.out] at this; omega
  rw [hnx] at HNX
  clear h hnx
  have HIT : Hid (IsB (w.alloc (.cells #[.int .i64 0, .int .u64 0, .int .i64 0, .string ⟨#[]⟩, .string ⟨#[]⟩, .int .u64 0, .int .i64 0, .int .i64 0, .int .i64 0, .string ⟨#[]⟩, .int .i64 0, .int .i64 0, .int .i64 0, .int .u32 0] 34)) (.slice (some ⟨b, off + a + (4 + n), none⟩) (l.length - a - (4 + n)) (c - a - (4 + n))) (m.drop (4 + n))) := HI0.out.drop (4 + n) (by omega) (off + a + (4 + n)) (l.length - a - (4 + n)) (c - a - (4 + n)) (fun _ => rfl) rfl rfl
  have hlt5 : 5 ≤ (m.drop (4 + n)).length := by rw [List.length_drop, HML.out]; omega
  have HNU := hd (number_is _ 5 _ (w.alloc (.cells #[.int .i64 0, .int .u64 0, .int .i64 0, .string ⟨#[]⟩, .string ⟨#[]⟩, .int .u64 0, .int .i64 0, .int .i64 0, .int .i64 0, .string ⟨#[]⟩, .int .i64 0, .int .i64 0, .int .i64 0, .int .u32 0] 34)) HIT.out (by omega) (by omega) hlt5)
  clear hlt5
  have HIM : Hid (IsB (w.alloc (.cells #[.int .i64 0, .int .u64 0, .int .i64 0, .string ⟨#[]⟩, .string ⟨#[]⟩, .int .u64 0, .int .i64 0, .int .i64 0, .int .i64 0, .string ⟨#[]⟩, .int .i64 0, .int .i64 0, .int .i64 0, .int .u32 0] 34)) (.slice (some ⟨b, off + a + 1, none⟩) (3 + n) (c - a - 1)) ((m.drop 1).take (3 + n))) := (HI0.out.drop 1 (by omega) (off + a + 1) (l.length - a - 1) (c - a - 1) (fun _ => rfl) rfl rfl).take (3 + n) (by rw [List.length_drop, HML.out]; omega)
  rw [numAns_ok hd5] at HNU
  have hnm : nm ((m.drop (4 + n)).take 5) < 34359738368 := by
    have h1 := nm_lt hd5
    have h2 : (128 : Nat) ^ ((m.drop (4 + n)).take 5).length ≤ 128 ^ 5 := Nat.pow_le_pow_right (by omega) (by rw [List.length_take]; omega)
    have h3 : (128 : Nat) ^ 5 = 34359738368 := by decide
    omega
  clear hd5
  have HSM := hd (sum_one (w.alloc (.cells #[.int .i64 0, .int .u64 0, .int .i64 0, .string ⟨#[]⟩, .string ⟨#[]⟩, .int .u64 0, .int .i64 0, .int .i64 0, .int .i64 0, .string ⟨#[]⟩, .int .i64 0, .int .i64 0, .int .i64 0, .int .u32 0] 34)) _ rfl _ _ HIM.out)
  have hcr := Crc.go_lt 0 ((m.drop 1).take (3 + n))
  have HA0 : Hid (Blk (w.alloc (.cells #[.int .i64 0, .int .u64 0, .int .i64 0, .string ⟨#[]⟩, .string ⟨#[]⟩, .int .u64 0, .int .i64 0, .int .i64 0, .int .i64 0, .string ⟨#[]⟩, .int .i64 0, .int .i64 0, .int .i64 0, .int .u32 0] 34)) w.heap.size 34 [.int .i64 0, .int .u64 0, .int .i64 0, .string ⟨#[]⟩, .string ⟨#[]⟩, .int .u64 0, .int .i64 0, .int .i64 0, .int .i64 0, .string ⟨#[]⟩, .int .i64 0, .int .i64 0, .int .i64 0, .int .u32 0]) := Blk.new w _ _
  generalize nm ((m.drop (4 + n)).take 5) = T at *
  generalize Crc.go 0 ((m.drop 1).take (3 + n)) = S at *
  have hq : (((T : Nat) : Int) != ((S : Nat) : Int)) = false := by simp; omega
  have HELE : Hid (E.length ≤ 281474976710656) := by show E.length ≤ _; rw [HEL.out]; omega
  have HOV := hd (dval_zf 0 45)
  have HO := hd (opV_no ho)
  clear ho hs
  go_enter Try.func22, Try.ntmps22
  go_wp2_with fail
  refine Calls.mono HC.out ?_
  rintro e w' ⟨rfl, hw'⟩
  subst hw'
  clear HC
  go_wp2_with fail
  refine Calls.mono HNX.out ?_
  rintro e w' ⟨rfl, hw'⟩
  subst hw'
  clear HNX
  go_wp2_with fail
  refine Calls.mono HNU.out ?_
  rintro e w' ⟨rfl, hw'⟩
  subst hw'
  clear HNU
  go_wp2_with fail
  rw [World.size_alloc] at HSM
  refine Calls.mono HSM.out ?_
  rintro e w1 ⟨rfl, hb⟩
  have hs1 := hb.size
  rw [World.size_alloc] at hs1
  have HA1 := hd (HA0.out.keep (by rw [World.size_alloc]; exact hb))
  have HB1 := hd (below_alloc1 (o := .cells #[.int .i64 0, .int .u64 0, .int .i64 0, .string ⟨#[]⟩, .string ⟨#[]⟩, .int .u64 0, .int .i64 0, .int .i64 0, .int .i64 0, .string ⟨#[]⟩, .int .i64 0, .int .i64 0, .int .i64 0, .int .u32 0] 34) (by rw [World.size_alloc]; exact hb))
  have HE1 := hd (HIE.out.below (by rw [World.size_alloc]; exact hb))
  clear hb HA0 HIE HSM
  go_wp2_with fail
  refine Calls.mono (openF_is _ E w1 HE1.out HELE.out) ?_
  rw [HO.out]
  rintro e w2 ⟨rfl, hb⟩
  have HA2 := hd (HA1.out.keep hb)
  have HB2 : Hid (Below w.heap.size w w2) := HB1.out.trans (hb.mono HB1.out.size)
  have hs2 := hb.size
  have n5 : w.heap.size < w2.heap.size := by omega
  have n6 : ¬ w.heap.size = w2.heap.size := by omega
  have n7 : ¬ w2.heap.size = w.heap.size := by omega
  clear hb HA1 HE1 HB1
  have a0 := HA2.out.cell 0 _ rfl
  have az0 := HA2.out.frozen 0
  have a1 := HA2.out.cell 1 _ rfl
  have az1 := HA2.out.frozen 1
  have a2 := HA2.out.cell 2 _ rfl
  have az2 := HA2.out.frozen 2
  have a3 := HA2.out.cell 3 _ rfl
  have az3 := HA2.out.frozen 3
  have a4 := HA2.out.cell 4 _ rfl
  have az4 := HA2.out.frozen 4
  have a5 := HA2.out.cell 5 _ rfl
  have az5 := HA2.out.frozen 5
  have a6 := HA2.out.cell 6 _ rfl
  have az6 := HA2.out.frozen 6
  have a7 := HA2.out.cell 7 _ rfl
  have az7 := HA2.out.frozen 7
  have a8 := HA2.out.cell 8 _ rfl
  have az8 := HA2.out.frozen 8
  have a9 := HA2.out.cell 9 _ rfl
  have az9 := HA2.out.frozen 9
  have a10 := HA2.out.cell 10 _ rfl
  have az10 := HA2.out.frozen 10
  have a11 := HA2.out.cell 11 _ rfl
  have az11 := HA2.out.frozen 11
  have a12 := HA2.out.cell 12 _ rfl
  have az12 := HA2.out.frozen 12
  have a13 := HA2.out.cell 13 _ rfl
  have az13 := HA2.out.frozen 13
  go_wp2_with fail
  have HF : Hid (Blk ((setL w2 w.heap.size 0 [.int .i64 0, .int .u64 0, .int .i64 0, .string ⟨#[]⟩, .string ⟨#[]⟩, .int .u64 0, .int .i64 0, .int .i64 0, .int .i64 0, .string ⟨#[]⟩, .int .i64 0, .int .i64 0, .int .i64 0, .int .u32 0]).alloc (.cells #[.int .i64 0, .int .u64 0, .int .i64 0, .string ⟨#[]⟩, .string ⟨#[]⟩, .int .u64 0, .int .i64 0, .int .i64 0, .int .i64 0, .string ⟨#[]⟩, .int .i64 0, .int .i64 0, .int .i64 0, .int .u32 0] 34)) w.heap.size 34 [.int .i64 0, .int .u64 0, .int .i64 0, .string ⟨#[]⟩, .string ⟨#[]⟩, .int .u64 0, .int .i64 0, .int .i64 0, .int .i64 0, .string ⟨#[]⟩, .int .i64 0, .int .i64 0, .int .i64 0, .int .u32 0]) := (setL_blk [.int .i64 0, .int .u64 0, .int .i64 0, .string ⟨#[]⟩, .string ⟨#[]⟩, .int .u64 0, .int .i64 0, .int .i64 0, .int .i64 0, .string ⟨#[]⟩, .int .i64 0, .int .i64 0, .int .i64 0, .int .u32 0] _ 0 [] [.int .i64 0, .int .u64 0, .int .i64 0, .string ⟨#[]⟩, .string ⟨#[]⟩, .int .u64 0, .int .i64 0, .int .i64 0, .int .i64 0, .string ⟨#[]⟩, .int .i64 0, .int .i64 0, .int .i64 0, .int .u32 0] rfl rfl HA2.out).alloc _
  refine bodyPost_ret (results_cell3 rfl _ _ w.heap.size 34 #[.int .i64 0, .int .u64 0, .int .i64 0, .string ⟨#[]⟩, .string ⟨#[]⟩, .int .u64 0, .int .i64 0, .int .i64 0, .int .i64 0, .string ⟨#[]⟩, .int .i64 0, .int .i64 0, .int .i64 0, .int .u32 0] (0, 0) _ rfl HF.out Try.underlying34 rfl (by kernel_rfl)) rfl ?_
  exact ⟨by rw [HOV.out]; rfl, ((setL_keepO (B := w.heap.size) (O := w.heap.size) [.int .i64 0, .int .u64 0, .int .i64 0, .string ⟨#[]⟩, .string ⟨#[]⟩, .int .u64 0, .int .i64 0, .int .i64 0, .int .i64 0, .string ⟨#[]⟩, .int .i64 0, .int .i64 0, .int .i64 0, .int .u32 0] _ w 0 (Nat.le_refl _) (KeepO.of_below HB2.out)).trans (KeepO.alloc _ _ _)).below (Nat.le_refl _) (Nat.le_refl _)⟩
set_option maxRecDepth 100000 in
set_option maxHeartbeats 800000 in
theorem decF_some (b off c a : Nat) (l : List Nat) (w : World) (hI : IsB w (.slice (some ⟨b, off, none⟩) l.length c) l) (ha : a < l.length) (n : Nat) (hn : rl (l.drop a) = (n, 0)) (h : ¬ nx (((l.drop a).drop 4).take n) < n) (hd5 : ∀ x ∈ ((l.drop a).drop (4 + n)).take 5, x < 128) (hs : nm (((l.drop a).drop (4 + n)).take 5) = Crc.go 0 (((l.drop a).drop 1).take (3 + n))) (f : Fr) (ho : opF (((l.drop a).drop 4).take n) = some f) :
    Calls Try.prog 22 #[.slice (some ⟨b, off, none⟩) l.length c, .int .i64 (a : Int)] w fun e w' => e = .returned (dval (f, n + 9, 0)) ∧ Below w.heap.size w w' := by
  have hcap := hI.cap
  have hcm : c ≤ maxLen := by
    obtain ⟨_, _, ⟨rfl, _⟩ | ⟨b', off', c', e, _, q, _⟩⟩ := hI
    · simp at ha
    · injection e with e1 e2 e3
      omega
  unfold maxLen at hcm
  have HI0 := hd ((hI.drop a (by omega) (off + a) (l.length - a) (c - a) (fun _ => rfl) rfl rfl).below ((Below.refl _ _).alloc (Nat.le_refl _) (.cells #[.int .i64 0, .int .u64 0, .int .i64 0, .string ⟨#[]⟩, .string ⟨#[]⟩, .int .u64 0, .int .i64 0, .int .i64 0, .int .i64 0, .string ⟨#[]⟩, .int .i64 0, .int .i64 0, .int .i64 0, .int .u32 0] 34)))
  have hml : (l.drop a).length = l.length - a := List.length_drop
  have HC := hd (readLen_is b (off + a) (c - a) (l.drop a) _ (by rw [hml]; exact HI0.out) (by rw [hml]; omega))
  rw [hml] at HC
  have HML := hd hml
  clear hml hI
  generalize l.drop a = m at *
  rw [hn] at HC
  have hn9 := (rl_ok hn).2.2.2.2.1
  have hn2 := (rl_ok hn).2.2.2.2.2
  rw [HML.out] at hn9
  clear hn
  have HIE : Hid (IsB (w.alloc (.cells #[.int .i64 0, .int .u64 0, .int .i64 0, .string ⟨#[]⟩, .string ⟨#[]⟩, .int .u64 0, .int .i64 0, .int .i64 0, .int .i64 0, .string ⟨#[]⟩, .int .i64 0, .int .i64 0, .int .i64 0, .int .u32 0] 34)) (.slice (some ⟨b, off + a + 4, none⟩) n (c - a - 4)) ((m.drop 4).take n)) := (HI0.out.drop 4 (by omega) (off + a + 4) (l.length - a - 4) (c - a - 4) (fun _ => rfl) rfl rfl).take n (by rw [List.length_drop, HML.out]; omega)
  have hel : ((m.drop 4).take n).length = n := by rw [List.length_take, List.length_drop, HML.out]; omega
  have HNX := hd (next_row b (off + a + 4) (c - a - 4) ((m.drop 4).take n) 0 (w.alloc (.cells #[.int .i64 0, .int .u64 0, .int .i64 0, .string ⟨#[]⟩, .string ⟨#[]⟩, .int .u64 0, .int .i64 0, .int .i64 0, .int .i64 0, .string ⟨#[]⟩, .int .i64 0, .int .i64 0, .int .i64 0, .int .u32 0] 34)) HIE.out.1 HIE.out.row (by rw [hel]; omega) (by unfold maxLen; omega))
  rw [hel, nxt_zero] at HNX
  have HEL := hd hel
  clear hel
  generalize (m.drop 4).take n = E at *
  have hnx : nx E = n := by have := nx_le E; rw [HEL.out] at this; omega
  rw [hnx] at HNX
  clear h hnx
  have HIT : Hid (IsB (w.alloc (.cells #[.int .i64 0, .int .u64 0, .int .i64 0, .string ⟨#[]⟩, .string ⟨#[]⟩, .int .u64 0, .int .i64 0, .int .i64 0, .int .i64 0, .string ⟨#[]⟩, .int .i64 0, .int .i64 0, .int .i64 0, .int .u32 0] 34)) (.slice (some ⟨b, off + a + (4 + n), none⟩) (l.length - a - (4 + n)) (c - a - (4 + n))) (m.drop (4 + n))) := HI0.out.drop (4 + n) (by omega) (off + a + (4 + n)) (l.length - a - (4 + n)) (c - a - (4 + n)) (fun _ => rfl) rfl rfl
  have hlt5 : 5 ≤ (m.drop (4 + n)).length := by rw [List.length_drop, HML.out]; omega
  have HNU := hd (number_is _ 5 _ (w.alloc (.cells #[.int .i64 0, .int .u64 0, .int .i64 0, .string ⟨#[]⟩, .string ⟨#[]⟩, .int .u64 0, .int .i64 0, .int .i64 0, .int .i64 0, .string ⟨#[]⟩, .int .i64 0, .int .i64 0, .int .i64 0, .int .u32 0] 34)) HIT.out (by omega) (by omega) hlt5)
  clear hlt5
  have HIM : Hid (IsB (w.alloc (.cells #[.int .i64 0, .int .u64 0, .int .i64 0, .string ⟨#[]⟩, .string ⟨#[]⟩, .int .u64 0, .int .i64 0, .int .i64 0, .int .i64 0, .string ⟨#[]⟩, .int .i64 0, .int .i64 0, .int .i64 0, .int .u32 0] 34)) (.slice (some ⟨b, off + a + 1, none⟩) (3 + n) (c - a - 1)) ((m.drop 1).take (3 + n))) := (HI0.out.drop 1 (by omega) (off + a + 1) (l.length - a - 1) (c - a - 1) (fun _ => rfl) rfl rfl).take (3 + n) (by rw [List.length_drop, HML.out]; omega)
  rw [numAns_ok hd5] at HNU
  have hnm : nm ((m.drop (4 + n)).take 5) < 34359738368 := by
    have h1 := nm_lt hd5
    have h2 : (128 : Nat) ^ ((m.drop (4 + n)).take 5).length ≤ 128 ^ 5 := Nat.pow_le_pow_right (by omega) (by rw [List.length_take]; omega)
    have h3 : (128 : Nat) ^ 5 = 34359738368 := by decide
    omega
  clear hd5
  have HSM := hd (sum_one (w.alloc (.cells #[.int .i64 0, .int .u64 0, .int .i64 0, .string ⟨#[]⟩, .string ⟨#[]⟩, .int .u64 0, .int .i64 0, .int .i64 0, .int .i64 0, .string ⟨#[]⟩, .int .i64 0, .int .i64 0, .int .i64 0, .int .u32 0] 34)) _ rfl _ _ HIM.out)
  have hcr := Crc.go_lt 0 ((m.drop 1).take (3 + n))
  have HA0 : Hid (Blk (w.alloc (.cells #[.int .i64 0, .int .u64 0, .int .i64 0, .string ⟨#[]⟩, .string ⟨#[]⟩, .int .u64 0, .int .i64 0, .int .i64 0, .int .i64 0, .string ⟨#[]⟩, .int .i64 0, .int .i64 0, .int .i64 0, .int .u32 0] 34)) w.heap.size 34 [.int .i64 0, .int .u64 0, .int .i64 0, .string ⟨#[]⟩, .string ⟨#[]⟩, .int .u64 0, .int .i64 0, .int .i64 0, .int .i64 0, .string ⟨#[]⟩, .int .i64 0, .int .i64 0, .int .i64 0, .int .u32 0]) := Blk.new w _ _
  generalize nm ((m.drop (4 + n)).take 5) = T at *
  generalize Crc.go 0 ((m.drop 1).take (3 + n)) = S at *
  have hq : (((T : Nat) : Int) != ((S : Nat) : Int)) = false := by simp; omega
  have HELE : Hid (E.length ≤ 281474976710656) := by show E.length ≤ _; rw [HEL.out]; omega
  obtain ⟨k, ⟨rl, rk, rkey, rval⟩, ⟨pl, pk, pa, pn, pkey⟩, ⟨ec, eb, ef, es⟩⟩ := f
  have HOV : Hid (dval (⟨k, ⟨rl, rk, rkey, rval⟩, ⟨pl, pk, pa, pn, pkey⟩, ⟨ec, eb, ef, es⟩⟩, n + 9, 0) = .tuple #[.agg #[.int .i64 k, .int .u64 (rl : Int), .int .i64 rk, .string rkey, .string rval, .int .u64 (pl : Int), .int .i64 pk, .int .i64 pa, .int .i64 pn, .string pkey, .int .i64 ec, .int .i64 eb, .int .i64 ef, .int .u32 (es : Int)], .int .i64 (4 + (n : Int) + 5), .int .i64 0]) := by
    show dval _ = _
    have e : ((n + 9 : Nat) : Int) = 4 + (n : Int) + 5 := by omega
    unfold dval fv
    simp only
    rw [e]
    rfl
  have HO : Hid (opV E = .tuple #[.agg #[.int .i64 k, .int .u64 (rl : Int), .int .i64 rk, .string rkey, .string rval, .int .u64 (pl : Int), .int .i64 pk, .int .i64 pa, .int .i64 pn, .string pkey, .int .i64 ec, .int .i64 eb, .int .i64 ef, .int .u32 (es : Int)], .bool true]) := by
    show opV E = _
    unfold opV; rw [ho]; rfl
  clear ho hs
  go_enter Try.func22, Try.ntmps22
  go_wp2_with fail
  refine Calls.mono HC.out ?_
  rintro e w' ⟨rfl, hw'⟩
  subst hw'
  clear HC
  go_wp2_with fail
  refine Calls.mono HNX.out ?_
  rintro e w' ⟨rfl, hw'⟩
  subst hw'
  clear HNX
  go_wp2_with fail
  refine Calls.mono HNU.out ?_
  rintro e w' ⟨rfl, hw'⟩
  subst hw'
  clear HNU
  go_wp2_with fail
  rw [World.size_alloc] at HSM
  refine Calls.mono HSM.out ?_
  rintro e w1 ⟨rfl, hb⟩
  have hs1 := hb.size
  rw [World.size_alloc] at hs1
  have HA1 := hd (HA0.out.keep (by rw [World.size_alloc]; exact hb))
  have HB1 := hd (below_alloc1 (o := .cells #[.int .i64 0, .int .u64 0, .int .i64 0, .string ⟨#[]⟩, .string ⟨#[]⟩, .int .u64 0, .int .i64 0, .int .i64 0, .int .i64 0, .string ⟨#[]⟩, .int .i64 0, .int .i64 0, .int .i64 0, .int .u32 0] 34) (by rw [World.size_alloc]; exact hb))
  have HE1 := hd (HIE.out.below (by rw [World.size_alloc]; exact hb))
  clear hb HA0 HIE HSM
  go_wp2_with fail
  refine Calls.mono (openF_is _ E w1 HE1.out HELE.out) ?_
  rw [HO.out]
  rintro e w2 ⟨rfl, hb⟩
  have HA2 := hd (HA1.out.keep hb)
  have HB2 : Hid (Below w.heap.size w w2) := HB1.out.trans (hb.mono HB1.out.size)
  have hs2 := hb.size
  have n5 : w.heap.size < w2.heap.size := by omega
  have n6 : ¬ w.heap.size = w2.heap.size := by omega
  have n7 : ¬ w2.heap.size = w.heap.size := by omega
  clear hb HA1 HE1 HB1
  have a0 := HA2.out.cell 0 _ rfl
  have az0 := HA2.out.frozen 0
  have a1 := HA2.out.cell 1 _ rfl
  have az1 := HA2.out.frozen 1
  have a2 := HA2.out.cell 2 _ rfl
  have az2 := HA2.out.frozen 2
  have a3 := HA2.out.cell 3 _ rfl
  have az3 := HA2.out.frozen 3
  have a4 := HA2.out.cell 4 _ rfl
  have az4 := HA2.out.frozen 4
  have a5 := HA2.out.cell 5 _ rfl
  have az5 := HA2.out.frozen 5
  have a6 := HA2.out.cell 6 _ rfl
  have az6 := HA2.out.frozen 6
  have a7 := HA2.out.cell 7 _ rfl
  have az7 := HA2.out.frozen 7
  have a8 := HA2.out.cell 8 _ rfl
  have az8 := HA2.out.frozen 8
  have a9 := HA2.out.cell 9 _ rfl
  have az9 := HA2.out.frozen 9
  have a10 := HA2.out.cell 10 _ rfl
  have az10 := HA2.out.frozen 10
  have a11 := HA2.out.cell 11 _ rfl
  have az11 := HA2.out.frozen 11
  have a12 := HA2.out.cell 12 _ rfl
  have az12 := HA2.out.frozen 12
  have a13 := HA2.out.cell 13 _ rfl
  have az13 := HA2.out.frozen 13
  go_wp2_with fail
  have HF : Hid (Blk ((setL w2 w.heap.size 0 [.int .i64 k, .int .u64 (rl : Int), .int .i64 rk, .string rkey, .string rval, .int .u64 (pl : Int), .int .i64 pk, .int .i64 pa, .int .i64 pn, .string pkey, .int .i64 ec, .int .i64 eb, .int .i64 ef, .int .u32 (es : Int)]).alloc (.cells #[.int .i64 k, .int .u64 (rl : Int), .int .i64 rk, .string rkey, .string rval, .int .u64 (pl : Int), .int .i64 pk, .int .i64 pa, .int .i64 pn, .string pkey, .int .i64 ec, .int .i64 eb, .int .i64 ef, .int .u32 (es : Int)] 34)) w.heap.size 34 [.int .i64 k, .int .u64 (rl : Int), .int .i64 rk, .string rkey, .string rval, .int .u64 (pl : Int), .int .i64 pk, .int .i64 pa, .int .i64 pn, .string pkey, .int .i64 ec, .int .i64 eb, .int .i64 ef, .int .u32 (es : Int)]) := (setL_blk [.int .i64 k, .int .u64 (rl : Int), .int .i64 rk, .string rkey, .string rval, .int .u64 (pl : Int), .int .i64 pk, .int .i64 pa, .int .i64 pn, .string pkey, .int .i64 ec, .int .i64 eb, .int .i64 ef, .int .u32 (es : Int)] _ 0 [] [.int .i64 0, .int .u64 0, .int .i64 0, .string ⟨#[]⟩, .string ⟨#[]⟩, .int .u64 0, .int .i64 0, .int .i64 0, .int .i64 0, .string ⟨#[]⟩, .int .i64 0, .int .i64 0, .int .i64 0, .int .u32 0] rfl rfl HA2.out).alloc _
  refine bodyPost_ret (results_cell3 rfl _ _ w.heap.size 34 #[.int .i64 k, .int .u64 (rl : Int), .int .i64 rk, .string rkey, .string rval, .int .u64 (pl : Int), .int .i64 pk, .int .i64 pa, .int .i64 pn, .string pkey, .int .i64 ec, .int .i64 eb, .int .i64 ef, .int .u32 (es : Int)] (0, 0) _ rfl HF.out Try.underlying34 rfl (by kernel_rfl)) rfl ?_
  exact ⟨by rw [HOV.out]; rfl, ((setL_keepO (B := w.heap.size) (O := w.heap.size) [.int .i64 k, .int .u64 (rl : Int), .int .i64 rk, .string rkey, .string rval, .int .u64 (pl : Int), .int .i64 pk, .int .i64 pa, .int .i64 pn, .string pkey, .int .i64 ec, .int .i64 eb, .int .i64 ef, .int .u32 (es : Int)] _ w 0 (Nat.le_refl _) (KeepO.of_below HB2.out)).trans (KeepO.alloc _ _ _)).below (Nat.le_refl _) (Nat.le_refl _)⟩
theorem decode_all (v : Value) (l : List Nat) (z : Int) (w : World) (hI : IsB w v l) :
    Calls Try.prog 22 #[v, .int .i64 z] w fun e w' => e = .returned (dval (decF l z)) ∧ Below w.heap.size w w' := by
  unfold decF
  by_cases h : z < 0 ∨ (l.length : Int) ≤ z
  · rw [if_pos h]; exact decF_arg v l z w hI h
  · rw [if_neg h]
    obtain ⟨a, rfl⟩ : ∃ a : Nat, z = (a : Int) := ⟨z.toNat, by omega⟩
    rw [Int.toNat_natCast]
    have ha : a < l.length := by omega
    obtain ⟨_, _, ⟨rfl, _⟩ | ⟨b, off, c, rfl, _⟩⟩ := id hI
    · simp at ha
    · unfold dcd
      by_cases h1 : (rl (l.drop a)).2 ≠ 0
      · rw [if_pos h1]; exact decF_len b off c a l w hI ha h1
      · rw [if_neg h1]
        obtain ⟨n, er, hn⟩ : ∃ n er, rl (l.drop a) = (n, er) := ⟨_, _, rfl⟩
        rw [hn] at h1 ⊢
        simp only at h1 ⊢
        obtain rfl : er = 0 := by omega
        by_cases h2 : nx (((l.drop a).drop 4).take n) < n
        · rw [if_pos h2]; exact decF_lead b off c a l w hI ha n hn h2
        · rw [if_neg h2]
          by_cases h3 : ∀ x ∈ ((l.drop a).drop (4 + n)).take 5, x < 128
          · by_cases h4 : nm (((l.drop a).drop (4 + n)).take 5) = Crc.go 0 (((l.drop a).drop 1).take (3 + n))
            · rw [if_neg (fun q => q ⟨h3, h4⟩)]
              cases ho : opF (((l.drop a).drop 4).take n) with
              | none => exact decF_none b off c a l w hI ha n hn h2 h3 h4 ho
              | some f => exact decF_some b off c a l w hI ha n hn h2 h3 h4 f ho
            · rw [if_pos (fun q => h4 q.2)]; exact decF_sum b off c a l w hI ha n hn h2 h3 h4
          · rw [if_pos (fun q => h3 q.1)]; exact decF_dig b off c a l w hI ha n hn h2 h3
end Vt
end Go.Proofs.Ytnjhbidialngmaa
