/-
  THE WALK OF frame.Decode: what 'dcd' says.
  THE WALK OF vint.Encode: the varints of all numbers, one behind the other, in a row of the call's own.
  THE WALK OF frame.Body: a frame that may not be; a Put.
-/
import Derived.Test.YtlddogigbodilaaMaj
import Derived.Test.YtlddogigbodilaaMad
import Derived.Test.YtlddogigbodilaaMam
import Derived.Test.YtlddogigbodilaaMah
import Derived.Test.YtlddogigbodilaaMag
import Derived.Test.YtlddogigbodilaaMac
import Derived.Lib.ConvBytes
namespace Go.Proofs.Ytlddogigbodilaa
open Go.RowKit
namespace Vt
theorem readLen_is (b off c : Nat) (l : List Nat) (w : World) (hI : IsB w (.slice (some ⟨b, off, none⟩) l.length c) l) (h1 : 1 ≤ l.length) :
    Calls Try.prog 80 #[.slice (some ⟨b, off, none⟩) l.length c] w fun e w' => e = .returned (.tuple #[.int .i64 ((rl l).1 : Int), .int .i64 ((rl l).2 : Int)]) ∧ w' = w := by
  by_cases h : l.length = 1
  · exact readLen_one b off c l w hI h
  · exact readLen_more b off c l w hI (by omega)
theorem rl_ok {l : List Nat} {n : Nat} (h : rl l = (n, 0)) : l.getD 0 0 = 167 ∧ (∀ x ∈ dig l, x < 128) ∧ 4 ≤ l.length ∧ n = nm (dig l) ∧ n + 9 ≤ l.length ∧ n < 2097152 := by
  by_cases h1 : l.getD 0 0 = 167
  · by_cases h2 : ∀ x ∈ dig l, x < 128
    · by_cases h3 : l.length < 4 ∨ l.length < nm (dig l) + 9
      · rw [rl_43 h1 h2 h3] at h; injection h with _ h; omega
      · rw [rl_0 h1 h2 (by omega) (by omega)] at h
        injection h with h _
        have := dig_nm h2
        exact ⟨h1, h2, by omega, h.symm, by omega, by omega⟩
    · rw [rl_42 h1 h2] at h; injection h with _ h; omega
  · rw [rl_41 h1] at h; injection h with _ h; omega
theorem rl_err {l : List Nat} (h : (rl l).2 ≠ 0) : (rl l).1 = 0 := by
  unfold rl at h ⊢
  split
  · rfl
  · split
    · rfl
    · split
      · rfl
      · rename_i a b c
        rw [if_neg a, if_neg b, if_neg c] at h
        exact absurd rfl h
theorem nxt_zero (l : List Nat) : nxt l 0 = nx l := by unfold nxt frm; simp
open Classical in
/-- what Decode answers of the bytes from a place on -/
noncomputable def dcd (m : List Nat) : Fr × Nat × Nat :=
  if (rl m).2 ≠ 0 then (zf, 0, (rl m).2)
  else if nx ((m.drop 4).take (rl m).1) < (rl m).1 then (zf, 0, 45)
  else if ¬ ((∀ x ∈ (m.drop (4 + (rl m).1)).take 5, x < 128) ∧ nm ((m.drop (4 + (rl m).1)).take 5) = Crc.go 0 ((m.drop 1).take (3 + (rl m).1))) then (zf, 0, 44)
  else match opF ((m.drop 4).take (rl m).1) with
    | none => (zf, 0, 45)
    | some f => (f, (rl m).1 + 9, 0)
noncomputable def decF (l : List Nat) (z : Int) : Fr × Nat × Nat := if z < 0 ∨ (l.length : Int) ≤ z then (zf, 0, 40) else dcd (l.drop z.toNat)
def dval (d : Fr × Nat × Nat) : Value := .tuple #[.agg (fv d.1), .int .i64 (d.2.1 : Int), .int .i64 (d.2.2 : Int)]
theorem dval_zf (n e : Nat) : dval (zf, n, e) = .tuple #[.agg #[.int .i64 0, .int .u64 0, .int .i64 0, .string ⟨#[]⟩, .string ⟨#[]⟩, .int .u64 0, .int .i64 0, .int .i64 0, .int .i64 0, .string ⟨#[]⟩, .int .i64 0, .int .i64 0, .int .i64 0, .int .u32 0], .int .i64 (n : Int), .int .i64 (e : Int)] := rfl
set_option maxRecDepth 100000 in
set_option maxHeartbeats 800000 in
theorem decF_arg (v : Value) (l : List Nat) (z : Int) (w : World) (hI : IsB w v l) (h : z < 0 ∨ (l.length : Int) ≤ z) :
    Calls Try.prog 66 #[v, .int .i64 z] w fun e w' => e = .returned (dval (zf, 0, 40)) ∧ Below w.heap.size w w' := by
  have HOV := hd (dval_zf 0 40)
  obtain ⟨a, c, rfl⟩ := hI.shape
  clear hI
  by_cases h0 : z < 0
  · go_enter Try.func66, Try.ntmps66
    go_wp2_with fail
    have HF : Hid (Blk (w.alloc (.cells #[.int .i64 0, .int .u64 0, .int .i64 0, .string ⟨#[]⟩, .string ⟨#[]⟩, .int .u64 0, .int .i64 0, .int .i64 0, .int .i64 0, .string ⟨#[]⟩, .int .i64 0, .int .i64 0, .int .i64 0, .int .u32 0] 41)) w.heap.size 41 [.int .i64 0, .int .u64 0, .int .i64 0, .string ⟨#[]⟩, .string ⟨#[]⟩, .int .u64 0, .int .i64 0, .int .i64 0, .int .i64 0, .string ⟨#[]⟩, .int .i64 0, .int .i64 0, .int .i64 0, .int .u32 0]) := Blk.new w _ _
    refine bodyPost_ret (results_cell3 rfl _ _ w.heap.size 41 #[.int .i64 0, .int .u64 0, .int .i64 0, .string ⟨#[]⟩, .string ⟨#[]⟩, .int .u64 0, .int .i64 0, .int .i64 0, .int .i64 0, .string ⟨#[]⟩, .int .i64 0, .int .i64 0, .int .i64 0, .int .u32 0] (0, 0) _ rfl HF.out Try.underlying41 rfl (by kernel_rfl)) rfl ?_
    exact ⟨by rw [HOV.out]; rfl, (Below.refl _ _).alloc (Nat.le_refl _) _⟩
  · have h1 : (l.length : Int) ≤ z := by omega
    go_enter Try.func66, Try.ntmps66
    go_wp2_with fail
    have HF : Hid (Blk (w.alloc (.cells #[.int .i64 0, .int .u64 0, .int .i64 0, .string ⟨#[]⟩, .string ⟨#[]⟩, .int .u64 0, .int .i64 0, .int .i64 0, .int .i64 0, .string ⟨#[]⟩, .int .i64 0, .int .i64 0, .int .i64 0, .int .u32 0] 41)) w.heap.size 41 [.int .i64 0, .int .u64 0, .int .i64 0, .string ⟨#[]⟩, .string ⟨#[]⟩, .int .u64 0, .int .i64 0, .int .i64 0, .int .i64 0, .string ⟨#[]⟩, .int .i64 0, .int .i64 0, .int .i64 0, .int .u32 0]) := Blk.new w _ _
    refine bodyPost_ret (results_cell3 rfl _ _ w.heap.size 41 #[.int .i64 0, .int .u64 0, .int .i64 0, .string ⟨#[]⟩, .string ⟨#[]⟩, .int .u64 0, .int .i64 0, .int .i64 0, .int .i64 0, .string ⟨#[]⟩, .int .i64 0, .int .i64 0, .int .i64 0, .int .u32 0] (0, 0) _ rfl HF.out Try.underlying41 rfl (by kernel_rfl)) rfl ?_
    exact ⟨by rw [HOV.out]; rfl, (Below.refl _ _).alloc (Nat.le_refl _) _⟩
set_option maxRecDepth 100000 in
set_option maxHeartbeats 800000 in
theorem decF_len (b off c a : Nat) (l : List Nat) (w : World) (hI : IsB w (.slice (some ⟨b, off, none⟩) l.length c) l) (ha : a < l.length) (h : (rl (l.drop a)).2 ≠ 0) :
    Calls Try.prog 66 #[.slice (some ⟨b, off, none⟩) l.length c, .int .i64 (a : Int)] w fun e w' => e = .returned (dval (zf, 0, (rl (l.drop a)).2)) ∧ Below w.heap.size w w' := by
  have hcap := hI.cap
  have hcm : c ≤ maxLen := by
    obtain ⟨_, _, ⟨rfl, _⟩ | ⟨b', off', c', e, _, q, _⟩⟩ := hI
    · simp at ha
    · injection e with e1 e2 e3
      omega
  unfold maxLen at hcm
  have HI0 := hd ((hI.drop a (by omega) (off + a) (l.length - a) (c - a) (fun _ => rfl) rfl rfl).below ((Below.refl _ _).alloc (Nat.le_refl _) (.cells #[.int .i64 0, .int .u64 0, .int .i64 0, .string ⟨#[]⟩, .string ⟨#[]⟩, .int .u64 0, .int .i64 0, .int .i64 0, .int .i64 0, .string ⟨#[]⟩, .int .i64 0, .int .i64 0, .int .i64 0, .int .u32 0] 41)))
  have hml : (l.drop a).length = l.length - a := List.length_drop
  have HC := hd (readLen_is b (off + a) (c - a) (l.drop a) _ (by rw [hml]; exact HI0.out) (by rw [hml]; omega))
  rw [hml] at HC
  have HML := hd hml
  clear hml hI
  generalize l.drop a = m at *
  have HOV := hd (dval_zf 0 (rl m).2)
  rw [rl_err h] at HC
  generalize (rl m).2 = er at *
  have hq : (((er : Nat) : Int) != 0) = true := by simp; omega
  go_enter Try.func66, Try.ntmps66
  go_wp2_with fail
  refine Calls.mono HC.out ?_
  rintro e w' ⟨rfl, hw'⟩
  subst hw'
  clear HC
  go_wp2_with fail
  have HF : Hid (Blk (w.alloc (.cells #[.int .i64 0, .int .u64 0, .int .i64 0, .string ⟨#[]⟩, .string ⟨#[]⟩, .int .u64 0, .int .i64 0, .int .i64 0, .int .i64 0, .string ⟨#[]⟩, .int .i64 0, .int .i64 0, .int .i64 0, .int .u32 0] 41)) w.heap.size 41 [.int .i64 0, .int .u64 0, .int .i64 0, .string ⟨#[]⟩, .string ⟨#[]⟩, .int .u64 0, .int .i64 0, .int .i64 0, .int .i64 0, .string ⟨#[]⟩, .int .i64 0, .int .i64 0, .int .i64 0, .int .u32 0]) := Blk.new w _ _
  refine bodyPost_ret (results_cell3 rfl _ _ w.heap.size 41 #[.int .i64 0, .int .u64 0, .int .i64 0, .string ⟨#[]⟩, .string ⟨#[]⟩, .int .u64 0, .int .i64 0, .int .i64 0, .int .i64 0, .string ⟨#[]⟩, .int .i64 0, .int .i64 0, .int .i64 0, .int .u32 0] (0, 0) _ rfl HF.out Try.underlying41 rfl (by kernel_rfl)) rfl ?_
  exact ⟨by rw [HOV.out]; rfl, (Below.refl _ _).alloc (Nat.le_refl _) _⟩
set_option maxRecDepth 100000 in
set_option maxHeartbeats 800000 in
theorem decF_lead (b off c a : Nat) (l : List Nat) (w : World) (hI : IsB w (.slice (some ⟨b, off, none⟩) l.length c) l) (ha : a < l.length) (n : Nat) (hn : rl (l.drop a) = (n, 0)) (h : nx (((l.drop a).drop 4).take n) < n) :
    Calls Try.prog 66 #[.slice (some ⟨b, off, none⟩) l.length c, .int .i64 (a : Int)] w fun e w' => e = .returned (dval (zf, 0, 45)) ∧ Below w.heap.size w w' := by
  have hcap := hI.cap
  have hcm : c ≤ maxLen := by
    obtain ⟨_, _, ⟨rfl, _⟩ | ⟨b', off', c', e, _, q, _⟩⟩ := hI
    · simp at ha
    · injection e with e1 e2 e3
      omega
  unfold maxLen at hcm
  have HI0 := hd ((hI.drop a (by omega) (off + a) (l.length - a) (c - a) (fun _ => rfl) rfl rfl).below ((Below.refl _ _).alloc (Nat.le_refl _) (.cells #[.int .i64 0, .int .u64 0, .int .i64 0, .string ⟨#[]⟩, .string ⟨#[]⟩, .int .u64 0, .int .i64 0, .int .i64 0, .int .i64 0, .string ⟨#[]⟩, .int .i64 0, .int .i64 0, .int .i64 0, .int .u32 0] 41)))
  have hml : (l.drop a).length = l.length - a := List.length_drop
  have HC := hd (readLen_is b (off + a) (c - a) (l.drop a) _ (by rw [hml]; exact HI0.out) (by rw [hml]; omega))
  rw [hml] at HC
  have HML := hd hml
  clear hml hI
  generalize l.drop a = m at *
  rw [hn] at HC
  have hn9 := (rl_ok hn).2.2.2.2.1
  have hn2 := (rl_ok hn).2.2.2.2.2
  rw [HML.out] at hn9
  clear hn
  have HIE : Hid (IsB (w.alloc (.cells #[.int .i64 0, .int .u64 0, .int .i64 0, .string ⟨#[]⟩, .string ⟨#[]⟩, .int .u64 0, .int .i64 0, .int .i64 0, .int .i64 0, .string ⟨#[]⟩, .int .i64 0, .int .i64 0, .int .i64 0, .int .u32 0] 41)) (.slice (some ⟨b, off + a + 4, none⟩) n (c - a - 4)) ((m.drop 4).take n)) := (HI0.out.drop 4 (by omega) (off + a + 4) (l.length - a - 4) (c - a - 4) (fun _ => rfl) rfl rfl).take n (by rw [List.length_drop, HML.out]; omega)
  have hel : ((m.drop 4).take n).length = n := by rw [List.length_take, List.length_drop, HML.out]; omega
  have HNX := hd (next_row b (off + a + 4) (c - a - 4) ((m.drop 4).take n) 0 (w.alloc (.cells #[.int .i64 0, .int .u64 0, .int .i64 0, .string ⟨#[]⟩, .string ⟨#[]⟩, .int .u64 0, .int .i64 0, .int .i64 0, .int .i64 0, .string ⟨#[]⟩, .int .i64 0, .int .i64 0, .int .i64 0, .int .u32 0] 41)) HIE.out.1 HIE.out.row (by rw [hel]; omega) (by unfold maxLen; omega))
  rw [hel, nxt_zero] at HNX
  have HEL := hd hel
  clear hel
  generalize (m.drop 4).take n = E at *
  have HOV := hd (dval_zf 0 45)
  generalize nx E = q at *
  go_enter Try.func66, Try.ntmps66
  go_wp2_with fail
  refine Calls.mono HC.out ?_
  rintro e w' ⟨rfl, hw'⟩
  subst hw'
  clear HC
  go_wp2_with fail
  refine Calls.mono HNX.out ?_
  rintro e w' ⟨rfl, hw'⟩
  subst hw'
  clear HNX
  go_wp2_with fail
  have HF : Hid (Blk (w.alloc (.cells #[.int .i64 0, .int .u64 0, .int .i64 0, .string ⟨#[]⟩, .string ⟨#[]⟩, .int .u64 0, .int .i64 0, .int .i64 0, .int .i64 0, .string ⟨#[]⟩, .int .i64 0, .int .i64 0, .int .i64 0, .int .u32 0] 41)) w.heap.size 41 [.int .i64 0, .int .u64 0, .int .i64 0, .string ⟨#[]⟩, .string ⟨#[]⟩, .int .u64 0, .int .i64 0, .int .i64 0, .int .i64 0, .string ⟨#[]⟩, .int .i64 0, .int .i64 0, .int .i64 0, .int .u32 0]) := Blk.new w _ _
  refine bodyPost_ret (results_cell3 rfl _ _ w.heap.size 41 #[.int .i64 0, .int .u64 0, .int .i64 0, .string ⟨#[]⟩, .string ⟨#[]⟩, .int .u64 0, .int .i64 0, .int .i64 0, .int .i64 0, .string ⟨#[]⟩, .int .i64 0, .int .i64 0, .int .i64 0, .int .u32 0] (0, 0) _ rfl HF.out Try.underlying41 rfl (by kernel_rfl)) rfl ?_
  exact ⟨by rw [HOV.out]; rfl, (Below.refl _ _).alloc (Nat.le_refl _) _⟩
set_option maxRecDepth 100000 in
set_option maxHeartbeats 800000 in
theorem decF_dig (b off c a : Nat) (l : List Nat) (w : World) (hI : IsB w (.slice (some ⟨b, off, none⟩) l.length c) l) (ha : a < l.length) (n : Nat) (hn : rl (l.drop a) = (n, 0)) (h : ¬ nx (((l.drop a).drop 4).take n) < n) (hd5 : ¬ ∀ x ∈ ((l.drop a).drop (4 + n)).take 5, x < 128) :
    Calls Try.prog 66 #[.slice (some ⟨b, off, none⟩) l.length c, .int .i64 (a : Int)] w fun e w' => e = .returned (dval (zf, 0, 44)) ∧ Below w.heap.size w w' := by
  have hcap := hI.cap
  have hcm : c ≤ maxLen := by
    obtain ⟨_, _, ⟨rfl, _⟩ | ⟨b', off', c', e, _, q, _⟩⟩ := hI
    · simp at ha
    · injection e with e1 e2 e3
      omega
  unfold maxLen at hcm
  have HI0 := hd ((hI.drop a (by omega) (off + a) (l.length - a) (c - a) (fun _ => rfl) rfl rfl).below ((Below.refl _ _).alloc (Nat.le_refl _) (.cells #[.int .i64 0, .int .u64 0, .int .i64 0, .string ⟨#[]⟩, .string ⟨#[]⟩, .int .u64 0, .int .i64 0, .int .i64 0, .int .i64 0, .string ⟨#[]⟩, .int .i64 0, .int .i64 0, .int .i64 0, .int .u32 0] 41)))
  have hml : (l.drop a).length = l.length - a := List.length_drop
  have HC := hd (readLen_is b (off + a) (c - a) (l.drop a) _ (by rw [hml]; exact HI0.out) (by rw [hml]; omega))
  rw [hml] at HC
  have HML := hd hml
  clear hml hI
  generalize l.drop a = m at *
  rw [hn] at HC
  have hn9 := (rl_ok hn).2.2.2.2.1
  have hn2 := (rl_ok hn).2.2.2.2.2
  rw [HML.out] at hn9
  clear hn
  have HIE : Hid (IsB (w.alloc (.cells #[.int .i64 0, .int .u64 0, .int .i64 0, .string ⟨#[]⟩, .string ⟨#[]⟩, .int .u64 0, .int .i64 0, .int .i64 0, .int .i64 0, .string ⟨#[]⟩, .int .i64 0, .int .i64 0, .int .i64 0, .int .u32 0] 41)) (.slice (some ⟨b, off + a + 4, none⟩) n (c - a - 4)) ((m.drop 4).take n)) := (HI0.out.drop 4 (by omega) (off + a + 4) (l.length - a - 4) (c - a - 4) (fun _ => rfl) rfl rfl).take n (by rw [List.length_drop, HML.out]; omega)
  have hel : ((m.drop 4).take n).length = n := by rw [List.length_take, List.length_drop, HML.out]; omega
  have HNX := hd (next_row b (off + a + 4) (c - a - 4) ((m.drop 4).take n) 0 (w.alloc (.cells #[.int .i64 0, .int .u64 0, .int .i64 0, .string ⟨#[]⟩, .string ⟨#[]⟩, .int .u64 0, .int .i64 0, .int .i64 0, .int .i64 0, .string ⟨#[]⟩, .int .i64 0, .int .i64 0, .int .i64 0, .int .u32 0] 41)) HIE.out.1 HIE.out.row (by rw [hel]; omega) (by unfold maxLen; omega))
  rw [hel, nxt_zero] at HNX
  have HEL := hd hel
  clear hel
  generalize (m.drop 4).take n = E at *
  have hnx : nx E = n := by have := nx_le E; rw [HEL.out] at this; omega
  rw [hnx] at HNX
  clear h hnx
  have HIT : Hid (IsB (w.alloc (.cells #[.int .i64 0, .int .u64 0, .int .i64 0, .string ⟨#[]⟩, .string ⟨#[]⟩, .int .u64 0, .int .i64 0, .int .i64 0, .int .i64 0, .string ⟨#[]⟩, .int .i64 0, .int .i64 0, .int .i64 0, .int .u32 0] 41)) (.slice (some ⟨b, off + a + (4 + n), none⟩) (l.length - a - (4 + n)) (c - a - (4 + n))) (m.drop (4 + n))) := HI0.out.drop (4 + n) (by omega) (off + a + (4 + n)) (l.length - a - (4 + n)) (c - a - (4 + n)) (fun _ => rfl) rfl rfl
  have hlt5 : 5 ≤ (m.drop (4 + n)).length := by rw [List.length_drop, HML.out]; omega
  have HNU := hd (number_is _ 5 _ (w.alloc (.cells #[.int .i64 0, .int .u64 0, .int .i64 0, .string ⟨#[]⟩, .string ⟨#[]⟩, .int .u64 0, .int .i64 0, .int .i64 0, .int .i64 0, .string ⟨#[]⟩, .int .i64 0, .int .i64 0, .int .i64 0, .int .u32 0] 41)) HIT.out (by omega) (by omega) hlt5)
  clear hlt5
  have HOV := hd (dval_zf 0 44)
  rw [numAns_bad hd5] at HNU
  clear hd5
  go_enter Try.func66, Try.ntmps66
  go_wp2_with fail
  refine Calls.mono HC.out ?_
  rintro e w' ⟨rfl, hw'⟩
  subst hw'
  clear HC
  go_wp2_with fail
  refine Calls.mono HNX.out ?_
  rintro e w' ⟨rfl, hw'⟩
  subst hw'
  clear HNX
  go_wp2_with fail
  refine Calls.mono HNU.out ?_
  rintro e w' ⟨rfl, hw'⟩
  subst hw'
  clear HNU
  go_wp2_with fail
  have HF : Hid (Blk (w.alloc (.cells #[.int .i64 0, .int .u64 0, .int .i64 0, .string ⟨#[]⟩, .string ⟨#[]⟩, .int .u64 0, .int .i64 0, .int .i64 0, .int .i64 0, .string ⟨#[]⟩, .int .i64 0, .int .i64 0, .int .i64 0, .int .u32 0] 41)) w.heap.size 41 [.int .i64 0, .int .u64 0, .int .i64 0, .string ⟨#[]⟩, .string ⟨#[]⟩, .int .u64 0, .int .i64 0, .int .i64 0, .int .i64 0, .string ⟨#[]⟩, .int .i64 0, .int .i64 0, .int .i64 0, .int .u32 0]) := Blk.new w _ _
  refine bodyPost_ret (results_cell3 rfl _ _ w.heap.size 41 #[.int .i64 0, .int .u64 0, .int .i64 0, .string ⟨#[]⟩, .string ⟨#[]⟩, .int .u64 0, .int .i64 0, .int .i64 0, .int .i64 0, .string ⟨#[]⟩, .int .i64 0, .int .i64 0, .int .i64 0, .int .u32 0] (0, 0) _ rfl HF.out Try.underlying41 rfl (by kernel_rfl)) rfl ?_
  exact ⟨by rw [HOV.out]; rfl, (Below.refl _ _).alloc (Nat.le_refl _) _⟩
set_option maxRecDepth 100000 in
set_option maxHeartbeats 800000 in
theorem decF_sum (b off c a : Nat) (l : List Nat) (w : World) (hI : IsB w (.slice (some ⟨b, off, none⟩) l.length c) l) (ha : a < l.length) (n : Nat) (hn : rl (l.drop a) = (n, 0)) (h : ¬ nx (((l.drop a).drop 4).take n) < n) (hd5 : ∀ x ∈ ((l.drop a).drop (4 + n)).take 5, x < 128) (hs : nm (((l.drop a).drop (4 + n)).take 5) ≠ Crc.go 0 (((l.drop a).drop 1).take (3 + n))) :
    Calls Try.prog 66 #[.slice (some ⟨b, off, none⟩) l.length c, .int .i64 (a : Int)] w fun e w' => e = .returned (dval (zf, 0, 44)) ∧ Below w.heap.size w w' := by
  have hcap := hI.cap
  have hcm : c ≤ maxLen := by
    obtain ⟨_, _, ⟨rfl, _⟩ | ⟨b', off', c', e, _, q, _⟩⟩ := hI
    · simp at ha
    · injection e with e1 e2 e3
      omega
  unfold maxLen at hcm
  have HI0 := hd ((hI.drop a (by omega) (off + a) (l.length - a) (c - a) (fun _ => rfl) rfl rfl).below ((Below.refl _ _).alloc (Nat.le_refl _) (.cells #[.int .i64 0, .int .u64 0, .int .i64 0, .string ⟨#[]⟩, .string ⟨#[]⟩, .int .u64 0, .int .i64 0, .int .i64 0, .int .i64 0, .string ⟨#[]⟩, .int .i64 0, .int .i64 0, .int .i64 0, .int .u32 0] 41)))
  have hml : (l.drop a).length = l.length - a := List.length_drop
  have HC := hd (readLen_is b (off + a) (c - a) (l.drop a) _ (by rw [hml]; exact HI0.out) (by rw [hml]; omega))
  rw [hml] at HC
  have HML := hd hml
  clear hml hI
  generalize l.drop a = m at *
  rw [hn] at HC
  have hn9 := (rl_ok hn).2.2.2.2.1
  have hn2 := (rl_ok hn).2.2.2.2.2
  rw [HML.out] at hn9
  clear hn
  have HIE : Hid (IsB (w.alloc (.cells #[.int .i64 0, .int .u64 0, .int .i64 0, .string ⟨#[]⟩, .string ⟨#[]⟩, .int .u64 0, .int .i64 0, .int .i64 0, .int .i64 0, .string ⟨#[]⟩, .int .i64 0, .int .i64 0, .int .i64 0, .int .u32 0] 41)) (.slice (some ⟨b, off + a + 4, none⟩) n (c - a - 4)) ((m.drop 4).take n)) := (HI0.out.drop 4 (by omega) (off + a + 4) (l.length - a - 4) (c - a - 4) (fun _ => rfl) rfl rfl).take n (by rw [List.length_drop, HML.out]; omega)
  have hel : ((m.drop 4).take n).length = n := by rw [List.length_take, List.length_drop, HML.out]; omega
  have HNX := hd (next_row b (off + a + 4) (c - a - 4) ((m.drop 4).take n) 0 (w.alloc (.cells #[.int .i64 0, .int .u64 0, .int .i64 0, .string ⟨#[]⟩, .string ⟨#[]⟩, .int .u64 0, .int .i64 0, .int .i64 0, .int .i64 0, .string ⟨#[]⟩, .int .i64 0, .int .i64 0, .int .i64 0, .int .u32 0] 41)) HIE.out.1 HIE.out.row (by rw [hel]; omega) (by unfold maxLen; omega))
  rw [hel, nxt_zero] at HNX
  have HEL := hd hel
  clear hel
  generalize (m.drop 4).take n = E at *
  have hnx : nx E = n := by have := nx_le E; rw [HEL.out] at this; omega
  rw [hnx] at HNX
  clear h hnx
  have HIT : Hid (IsB (w.alloc (.cells #[.int .i64 0, .int .u64 0, .int .i64 0, .string ⟨#[]⟩, .string ⟨#[]⟩, .int .u64 0, .int .i64 0, .int .i64 0, .int .i64 0, .string ⟨#[]⟩, .int .i64 0, .int .i64 0, .int .i64 0, .int .u32 0] 41)) (.slice (some ⟨b, off + a + (4 + n), none⟩) (l.length - a - (4 + n)) (c - a - (4 + n))) (m.drop (4 + n))) := HI0.out.drop (4 + n) (by omega) (off + a + (4 + n)) (l.length - a - (4 + n)) (c - a - (4 + n)) (fun _ => rfl) rfl rfl
  have hlt5 : 5 ≤ (m.drop (4 + n)).length := by rw [List.length_drop, HML.out]; omega
  have HNU := hd (number_is _ 5 _ (w.alloc (.cells #[.int .i64 0, .int .u64 0, .int .i64 0, .string ⟨#[]⟩, .string ⟨#[]⟩, .int .u64 0, .int .i64 0, .int .i64 0, .int .i64 0, .string ⟨#[]⟩, .int .i64 0, .int .i64 0, .int .i64 0, .int .u32 0] 41)) HIT.out (by omega) (by omega) hlt5)
  clear hlt5
  have HIM : Hid (IsB (w.alloc (.cells #[.int .i64 0, .int .u64 0, .int .i64 0, .string ⟨#[]⟩, .string ⟨#[]⟩, .int .u64 0, .int .i64 0, .int .i64 0, .int .i64 0, .string ⟨#[]⟩, .int .i64 0, .int .i64 0, .int .i64 0, .int .u32 0] 41)) (.slice (some ⟨b, off + a + 1, none⟩) (3 + n) (c - a - 1)) ((m.drop 1).take (3 + n))) := (HI0.out.drop 1 (by omega) (off + a + 1) (l.length - a - 1) (c - a - 1) (fun _ => rfl) rfl rfl).take (3 + n) (by rw [List.length_drop, HML.out]; omega)
  rw [numAns_ok hd5] at HNU
  have hnm : nm ((m.drop (4 + n)).take 5) < 34359738368 := by
    have h1 := nm_lt hd5
    have h2 : (128 : Nat) ^ ((m.drop (4 + n)).take 5).length ≤ 128 ^ 5 := Nat.pow_le_pow_right (by omega) (by rw [List.length_take]; omega)
    have h3 : (128 : Nat) ^ 5 = 34359738368 := by decide
    omega
  clear hd5
  have HSM := hd (sum_one (w.alloc (.cells #[.int .i64 0, .int .u64 0, .int .i64 0, .string ⟨#[]⟩, .string ⟨#[]⟩, .int .u64 0, .int .i64 0, .int .i64 0, .int .i64 0, .string ⟨#[]⟩, .int .i64 0, .int .i64 0, .int .i64 0, .int .u32 0] 41)) _ rfl _ _ HIM.out)
  have hcr := Crc.go_lt 0 ((m.drop 1).take (3 + n))
  have HA0 : Hid (Blk (w.alloc (.cells #[.int .i64 0, .int .u64 0, .int .i64 0, .string ⟨#[]⟩, .string ⟨#[]⟩, .int .u64 0, .int .i64 0, .int .i64 0, .int .i64 0, .string ⟨#[]⟩, .int .i64 0, .int .i64 0, .int .i64 0, .int .u32 0] 41)) w.heap.size 41 [.int .i64 0, .int .u64 0, .int .i64 0, .string ⟨#[]⟩, .string ⟨#[]⟩, .int .u64 0, .int .i64 0, .int .i64 0, .int .i64 0, .string ⟨#[]⟩, .int .i64 0, .int .i64 0, .int .i64 0, .int .u32 0]) := Blk.new w _ _
  generalize nm ((m.drop (4 + n)).take 5) = T at *
  generalize Crc.go 0 ((m.drop 1).take (3 + n)) = S at *
  have HOV := hd (dval_zf 0 44)
  have hq : (((T : Nat) : Int) != ((S : Nat) : Int)) = true := by simp; omega
  go_enter Try.func66, Try.ntmps66
  go_wp2_with fail
  refine Calls.mono HC.out ?_
  rintro e w' ⟨rfl, hw'⟩
  subst hw'
  clear HC
  go_wp2_with fail
  refine Calls.mono HNX.out ?_
  rintro e w' ⟨rfl, hw'⟩
  subst hw'
  clear HNX
  go_wp2_with fail
  refine Calls.mono HNU.out ?_
  rintro e w' ⟨rfl, hw'⟩
  subst hw'
  clear HNU
  go_wp2_with fail
  rw [World.size_alloc] at HSM
  refine Calls.mono HSM.out ?_
  rintro e w1 ⟨rfl, hb⟩
  have hs1 := hb.size
  rw [World.size_alloc] at hs1
  have HA1 := hd (HA0.out.keep (by rw [World.size_alloc]; exact hb))
  have HB1 := hd (below_alloc1 (o := .cells #[.int .i64 0, .int .u64 0, .int .i64 0, .string ⟨#[]⟩, .string ⟨#[]⟩, .int .u64 0, .int .i64 0, .int .i64 0, .int .i64 0, .string ⟨#[]⟩, .int .i64 0, .int .i64 0, .int .i64 0, .int .u32 0] 41) (by rw [World.size_alloc]; exact hb))
  have HE1 := hd (HIE.out.below (by rw [World.size_alloc]; exact hb))
  clear hb HA0 HIE HSM
  have a0 := HA1.out.cell 0 _ rfl
  have az0 := HA1.out.frozen 0
  have a1 := HA1.out.cell 1 _ rfl
  have az1 := HA1.out.frozen 1
  have a2 := HA1.out.cell 2 _ rfl
  have az2 := HA1.out.frozen 2
  have a3 := HA1.out.cell 3 _ rfl
  have az3 := HA1.out.frozen 3
  have a4 := HA1.out.cell 4 _ rfl
  have az4 := HA1.out.frozen 4
  have a5 := HA1.out.cell 5 _ rfl
  have az5 := HA1.out.frozen 5
  have a6 := HA1.out.cell 6 _ rfl
  have az6 := HA1.out.frozen 6
  have a7 := HA1.out.cell 7 _ rfl
  have az7 := HA1.out.frozen 7
  have a8 := HA1.out.cell 8 _ rfl
  have az8 := HA1.out.frozen 8
  have a9 := HA1.out.cell 9 _ rfl
  have az9 := HA1.out.frozen 9
  have a10 := HA1.out.cell 10 _ rfl
  have az10 := HA1.out.frozen 10
  have a11 := HA1.out.cell 11 _ rfl
  have az11 := HA1.out.frozen 11
  have a12 := HA1.out.cell 12 _ rfl
  have az12 := HA1.out.frozen 12
  have a13 := HA1.out.cell 13 _ rfl
  have az13 := HA1.out.frozen 13
  go_wp2_with fail
  have HF : Hid (Blk (setL w1 w.heap.size 0 [.int .i64 0, .int .u64 0, .int .i64 0, .string ⟨#[]⟩, .string ⟨#[]⟩, .int .u64 0, .int .i64 0, .int .i64 0, .int .i64 0, .string ⟨#[]⟩, .int .i64 0, .int .i64 0, .int .i64 0, .int .u32 0]) w.heap.size 41 [.int .i64 0, .int .u64 0, .int .i64 0, .string ⟨#[]⟩, .string ⟨#[]⟩, .int .u64 0, .int .i64 0, .int .i64 0, .int .i64 0, .string ⟨#[]⟩, .int .i64 0, .int .i64 0, .int .i64 0, .int .u32 0]) := setL_blk [.int .i64 0, .int .u64 0, .int .i64 0, .string ⟨#[]⟩, .string ⟨#[]⟩, .int .u64 0, .int .i64 0, .int .i64 0, .int .i64 0, .string ⟨#[]⟩, .int .i64 0, .int .i64 0, .int .i64 0, .int .u32 0] _ 0 [] [.int .i64 0, .int .u64 0, .int .i64 0, .string ⟨#[]⟩, .string ⟨#[]⟩, .int .u64 0, .int .i64 0, .int .i64 0, .int .i64 0, .string ⟨#[]⟩, .int .i64 0, .int .i64 0, .int .i64 0, .int .u32 0] rfl rfl HA1.out
  refine bodyPost_ret (results_cell3 rfl _ _ w.heap.size 41 #[.int .i64 0, .int .u64 0, .int .i64 0, .string ⟨#[]⟩, .string ⟨#[]⟩, .int .u64 0, .int .i64 0, .int .i64 0, .int .i64 0, .string ⟨#[]⟩, .int .i64 0, .int .i64 0, .int .i64 0, .int .u32 0] (0, 0) _ rfl HF.out Try.underlying41 rfl (by kernel_rfl)) rfl ?_
  exact ⟨by rw [HOV.out]; rfl, (setL_keepO (B := w.heap.size) (O := w.heap.size) [.int .i64 0, .int .u64 0, .int .i64 0, .string ⟨#[]⟩, .string ⟨#[]⟩, .int .u64 0, .int .i64 0, .int .i64 0, .int .i64 0, .string ⟨#[]⟩, .int .i64 0, .int .i64 0, .int .i64 0, .int .u32 0] _ w 0 (Nat.le_refl _) (KeepO.of_below HB1.out)).below (Nat.le_refl _) (Nat.le_refl _)⟩
set_option maxRecDepth 100000 in
set_option maxHeartbeats 800000 in
theorem decF_none (b off c a : Nat) (l : List Nat) (w : World) (hI : IsB w (.slice (some ⟨b, off, none⟩) l.length c) l) (ha : a < l.length) (n : Nat) (hn : rl (l.drop a) = (n, 0)) (h : ¬ nx (((l.drop a).drop 4).take n) < n) (hd5 : ∀ x ∈ ((l.drop a).drop (4 + n)).take 5, x < 128) (hs : nm (((l.drop a).drop (4 + n)).take 5) = Crc.go 0 (((l.drop a).drop 1).take (3 + n))) (ho : opF (((l.drop a).drop 4).take n) = none) :
    Calls Try.prog 66 #[.slice (some ⟨b, off, none⟩) l.length c, .int .i64 (a : Int)] w fun e w' => e = .returned (dval (zf, 0, 45)) ∧ Below w.heap.size w w' := by
  have hcap := hI.cap
  have hcm : c ≤ maxLen := by
    obtain ⟨_, _, ⟨rfl, _⟩ | ⟨b', off', c', e, _, q, _⟩⟩ := hI
    · simp at ha
    · injection e with e1 e2 e3
      omega
  unfold maxLen at hcm
  have HI0 := hd ((hI.drop a (by omega) (off + a) (l.length - a) (c - a) (fun _ => rfl) rfl rfl).below ((Below.refl _ _).alloc (Nat.le_refl _) (.cells #[.int .i64 0, .int .u64 0, .int .i64 0, .string ⟨#[]⟩, .string ⟨#[]⟩, .int .u64 0, .int .i64 0, .int .i64 0, .int .i64 0, .string ⟨#[]⟩, .int .i64 0, .int .i64 0, .int .i64 0, .int .u32 0] 41)))
  have hml : (l.drop a).length = l.length - a := List.length_drop
  have HC := hd (readLen_is b (off + a) (c - a) (l.drop a) _ (by rw [hml]; exact HI0.out) (by rw [hml]; omega))
  rw [hml] at HC
  have HML := hd hml
  clear hml hI
  generalize l.drop a = m at *
  rw [hn] at HC
  have hn9 := (rl_ok hn).2.2.2.2.1
  have hn2 := (rl_ok hn).2.2.2.2.2
  rw [HML.out] at hn9
  clear hn
  have HIE : Hid (IsB (w.alloc (.cells #[.int .i64 0, .int .u64 0, .int .i64 0, .string ⟨#[]⟩, .string ⟨#[]⟩, .int .u64 0, .int .i64 0, .int .i64 0, .int .i64 0, .string ⟨#[]⟩, .int .i64 0, .int .i64 0, .int .i64 0, .int .u32 0] 41)) (.slice (some ⟨b, off + a + 4, none⟩) n (c - a - 4)) ((m.drop 4).take n)) := (HI0.out.drop 4 (by omega) (off + a + 4) (l.length - a - 4) (c - a - 4) (fun _ => rfl) rfl rfl).take n (by rw [List.length_drop, HML.out]; omega)
  have hel : ((m.drop 4).take n).length = n := by rw [List.length_take, List.length_drop, HML.out]; omega
  have HNX := hd (next_row b (off + a + 4) (c - a - 4) ((m.drop 4).take n) 0 (w.alloc (.cells #[.int .i64 0, .int .u64 0, .int .i64 0, .string ⟨#[]⟩, .string ⟨#[]⟩, .int .u64 0, .int .i64 0, .int .i64 0, .int .i64 0, .string ⟨#[]⟩, .int .i64 0, .int .i64 0, .int .i64 0, .int .u32 0] 41)) HIE.out.1 HIE.out.row (by rw [hel]; omega) (by unfold maxLen; omega))
  rw [hel, nxt_zero] at HNX
  have HEL := hd hel
  clear hel
  generalize (m.drop 4).take n = E at *
  have hnx : nx E = n := by have := nx_le E; rw [HEL.out] at this; omega
  rw [hnx] at HNX
  clear h hnx
  have HIT : Hid (IsB (w.alloc (.cells #[.int .i64 0, .int .u64 0, .int .i64 0, .string ⟨#[]⟩, .string ⟨#[]⟩, .int .u64 0, .int .i64 0, .int .i64 0, .int .i64 0, .string ⟨#[]⟩, .int .i64 0, .int .i64 0, .int .i64 0, .int .u32 0] 41)) (.slice (some ⟨b, off + a + (4 + n), none⟩) (l.length - a - (4 + n)) (c - a - (4 + n))) (m.drop (4 + n))) := HI0.out.drop (4 + n) (by omega) (off + a + (4 + n)) (l.length - a - (4 + n)) (c - a - (4 + n)) (fun _ => rfl) rfl rfl
  have hlt5 : 5 ≤ (m.drop (4 + n)).length := by rw [List.length_drop, HML.out]; omega
  have HNU := hd (number_is _ 5 _ (w.alloc (.cells #[.int .i64 0, .int .u64 0, .int .i64 0, .string ⟨#[]⟩, .string ⟨#[]⟩, .int .u64 0, .int .i64 0, .int .i64 0, .int .i64 0, .string ⟨#[]⟩, .int .i64 0, .int .i64 0, .int .i64 0, .int .u32 0] 41)) HIT.out (by omega) (by omega) hlt5)
  clear hlt5
  have HIM : Hid (IsB (w.alloc (.cells #[.int .i64 0, .int .u64 0, .int .i64 0, .string ⟨#[]⟩, .string ⟨#[]⟩, .int .u64 0, .int .i64 0, .int .i64 0, .int .i64 0, .string ⟨#[]⟩, .int .i64 0, .int .i64 0, .int .i64 0, .int .u32 0] 41)) (.slice (some ⟨b, off + a + 1, none⟩) (3 + n) (c - a - 1)) ((m.drop 1).take (3 + n))) := (HI0.out.drop 1 (by omega) (off + a + 1) (l.length - a - 1) (c - a - 1) (fun _ => rfl) rfl rfl).take (3 + n) (by rw [List.length_drop, HML.out]; omega)
  rw [numAns_ok hd5] at HNU
  have hnm : nm ((m.drop (4 + n)).take 5) < 34359738368 := by
    have h1 := nm_lt hd5
    have h2 : (128 : Nat) ^ ((m.drop (4 + n)).take 5).length ≤ 128 ^ 5 := Nat.pow_le_pow_right (by omega) (by rw [List.length_take]; omega)
    have h3 : (128 : Nat) ^ 5 = 34359738368 := by decide
    omega
  clear hd5
  have HSM := hd (sum_one (w.alloc (.cells #[.int .i64 0, .int .u64 0, .int .i64 0, .string ⟨#[]⟩, .string ⟨#[]⟩, .int .u64 0, .int .i64 0, .int .i64 0, .int .i64 0, .string ⟨#[]⟩, .int .i64 0, .int .i64 0, .int .i64 0, .int .u32 0] 41)) _ rfl _ _ HIM.out)
  have hcr := Crc.go_lt 0 ((m.drop 1).take (3 + n))
  have HA0 : Hid (Blk (w.alloc (.cells #[.int .i64 0, .int .u64 0, .int .i64 0, .string ⟨#[]⟩, .string ⟨#[]⟩, .int .u64 0, .int .i64 0, .int .i64 0, .int .i64 0, .string ⟨#[]⟩, .int .i64 0, .int .i64 0, .int .i64 0, .int .u32 0] 41)) w.heap.size 41 [.int .i64 0, .int .u64 0, .int .i64 0, .string ⟨#[]⟩, .string ⟨#[]⟩, .int .u64 0, .int .i64 0, .int .i64 0, .int .i64 0, .string ⟨#[]⟩, .int .i64 0, .int .i64 0, .int .i64 0, .int .u32 0]) := Blk.new w _ _
  generalize nm ((m.drop (4 + n)).take 5) = T at *
  generalize Crc.go 0 ((m.drop 1).take (3 + n)) = S at *
  have hq : (((T : Nat) : Int) != ((S : Nat) : Int)) = false := by simp; omega
  have HELE : Hid (E.length ≤ 281474976710656) := by show E.length ≤ _; rw [HEL.out]; omega
  have HOV := hd (dval_zf 0 45)
  have HO := hd (opV_no ho)
  clear ho hs
  go_enter Try.func66, Try.ntmps66
  go_wp2_with fail
  refine Calls.mono HC.out ?_
  rintro e w' ⟨rfl, hw'⟩
  subst hw'
  clear HC
  go_wp2_with fail
  refine Calls.mono HNX.out ?_
  rintro e w' ⟨rfl, hw'⟩
  subst hw'
  clear HNX
  go_wp2_with fail
  refine Calls.mono HNU.out ?_
  rintro e w' ⟨rfl, hw'⟩
  subst hw'
  clear HNU
  go_wp2_with fail
  rw [World.size_alloc] at HSM
  refine Calls.mono HSM.out ?_
  rintro e w1 ⟨rfl, hb⟩
  have hs1 := hb.size
  rw [World.size_alloc] at hs1
  have HA1 := hd (HA0.out.keep (by rw [World.size_alloc]; exact hb))
  have HB1 := hd (below_alloc1 (o := .cells #[.int .i64 0, .int .u64 0, .int .i64 0, .string ⟨#[]⟩, .string ⟨#[]⟩, .int .u64 0, .int .i64 0, .int .i64 0, .int .i64 0, .string ⟨#[]⟩, .int .i64 0, .int .i64 0, .int .i64 0, .int .u32 0] 41) (by rw [World.size_alloc]; exact hb))
  have HE1 := hd (HIE.out.below (by rw [World.size_alloc]; exact hb))
  clear hb HA0 HIE HSM
  go_wp2_with fail
  refine Calls.mono (openF_is _ E w1 HE1.out HELE.out) ?_
  rw [HO.out]
  rintro e w2 ⟨rfl, hb⟩
  have HA2 := hd (HA1.out.keep hb)
  have HB2 : Hid (Below w.heap.size w w2) := HB1.out.trans (hb.mono HB1.out.size)
  have hs2 := hb.size
  have n5 : w.heap.size < w2.heap.size := by omega
  have n6 : ¬ w.heap.size = w2.heap.size := by omega
  have n7 : ¬ w2.heap.size = w.heap.size := by omega
  clear hb HA1 HE1 HB1
  have a0 := HA2.out.cell 0 _ rfl
  have az0 := HA2.out.frozen 0
  have a1 := HA2.out.cell 1 _ rfl
  have az1 := HA2.out.frozen 1
  have a2 := HA2.out.cell 2 _ rfl
  have az2 := HA2.out.frozen 2
  have a3 := HA2.out.cell 3 _ rfl
  have az3 := HA2.out.frozen 3
  have a4 := HA2.out.cell 4 _ rfl
  have az4 := HA2.out.frozen 4
  have a5 := HA2.out.cell 5 _ rfl
  have az5 := HA2.out.frozen 5
  have a6 := HA2.out.cell 6 _ rfl
  have az6 := HA2.out.frozen 6
  have a7 := HA2.out.cell 7 _ rfl
  have az7 := HA2.out.frozen 7
  have a8 := HA2.out.cell 8 _ rfl
  have az8 := HA2.out.frozen 8
  have a9 := HA2.out.cell 9 _ rfl
  have az9 := HA2.out.frozen 9
  have a10 := HA2.out.cell 10 _ rfl
  have az10 := HA2.out.frozen 10
  have a11 := HA2.out.cell 11 _ rfl
  have az11 := HA2.out.frozen 11
  have a12 := HA2.out.cell 12 _ rfl
  have az12 := HA2.out.frozen 12
  have a13 := HA2.out.cell 13 _ rfl
  have az13 := HA2.out.frozen 13
  go_wp2_with fail
  have HF : Hid (Blk ((setL w2 w.heap.size 0 [.int .i64 0, .int .u64 0, .int .i64 0, .string ⟨#[]⟩, .string ⟨#[]⟩, .int .u64 0, .int .i64 0, .int .i64 0, .int .i64 0, .string ⟨#[]⟩, .int .i64 0, .int .i64 0, .int .i64 0, .int .u32 0]).alloc (.cells #[.int .i64 0, .int .u64 0, .int .i64 0, .string ⟨#[]⟩, .string ⟨#[]⟩, .int .u64 0, .int .i64 0, .int .i64 0, .int .i64 0, .string ⟨#[]⟩, .int .i64 0, .int .i64 0, .int .i64 0, .int .u32 0] 41)) w.heap.size 41 [.int .i64 0, .int .u64 0, .int .i64 0, .string ⟨#[]⟩, .string ⟨#[]⟩, .int .u64 0, .int .i64 0, .int .i64 0, .int .i64 0, .string ⟨#[]⟩, .int .i64 0, .int .i64 0, .int .i64 0, .int .u32 0]) := (setL_blk [.int .i64 0, .int .u64 0, .int .i64 0, .string ⟨#[]⟩, .string ⟨#[]⟩, .int .u64 0, .int .i64 0, .int .i64 0, .int .i64 0, .string ⟨#[]⟩, .int .i64 0, .int .i64 0, .int .i64 0, .int .u32 0] _ 0 [] [.int .i64 0, .int .u64 0, .int .i64 0, .string ⟨#[]⟩, .string ⟨#[]⟩, .int .u64 0, .int .i64 0, .int .i64 0, .int .i64 0, .string ⟨#[]⟩, .int .i64 0, .int .i64 0, .int .i64 0, .int .u32 0] rfl rfl HA2.out).alloc _
  refine bodyPost_ret (results_cell3 rfl _ _ w.heap.size 41 #[.int .i64 0, .int .u64 0, .int .i64 0, .string ⟨#[]⟩, .string ⟨#[]⟩, .int .u64 0, .int .i64 0, .int .i64 0, .int .i64 0, .string ⟨#[]⟩, .int .i64 0, .int .i64 0, .int .i64 0, .int .u32 0] (0, 0) _ rfl HF.out Try.underlying41 rfl (by kernel_rfl)) rfl ?_
  exact ⟨by rw [HOV.out]; rfl, ((setL_keepO (B := w.heap.size) (O := w.heap.size) [.int .i64 0, .int .u64 0, .int .i64 0, .string ⟨#[]⟩, .string ⟨#[]⟩, .int .u64 0, .int .i64 0, .int .i64 0, .int .i64 0, .string ⟨#[]⟩, .int .i64 0, .int .i64 0, .int .i64 0, .int .u32 0] _ w 0 (Nat.le_refl _) (KeepO.of_below HB2.out)).trans (KeepO.alloc _ _ _)).below (Nat.le_refl _) (Nat.le_refl _)⟩
set_option maxRecDepth 100000 in
set_option maxHeartbeats 800000 in
theorem decF_some (b off c a : Nat) (l : List Nat) (w : World) (hI : IsB w (.slice (some ⟨b, off, none⟩) l.length c) l) (ha : a < l.length) (n : Nat) (hn : rl (l.drop a) = (n, 0)) (h : ¬ nx (((l.drop a).drop 4).take n) < n) (hd5 : ∀ x ∈ ((l.drop a).drop (4 + n)).take 5, x < 128) (hs : nm (((l.drop a).drop (4 + n)).take 5) = Crc.go 0 (((l.drop a).drop 1).take (3 + n))) (f : Fr) (ho : opF (((l.drop a).drop 4).take n) = some f) :
    Calls Try.prog 66 #[.slice (some ⟨b, off, none⟩) l.length c, .int .i64 (a : Int)] w fun e w' => e = .returned (dval (f, n + 9, 0)) ∧ Below w.heap.size w w' := by
  have hcap := hI.cap
  have hcm : c ≤ maxLen := by
    obtain ⟨_, _, ⟨rfl, _⟩ | ⟨b', off', c', e, _, q, _⟩⟩ := hI
    · simp at ha
    · injection e with e1 e2 e3
      omega
  unfold maxLen at hcm
  have HI0 := hd ((hI.drop a (by omega) (off + a) (l.length - a) (c - a) (fun _ => rfl) rfl rfl).below ((Below.refl _ _).alloc (Nat.le_refl _) (.cells #[.int .i64 0, .int .u64 0, .int .i64 0, .string ⟨#[]⟩, .string ⟨#[]⟩, .int .u64 0, .int .i64 0, .int .i64 0, .int .i64 0, .string ⟨#[]⟩, .int .i64 0, .int .i64 0, .int .i64 0, .int .u32 0] 41)))
  have hml : (l.drop a).length = l.length - a := List.length_drop
  have HC := hd (readLen_is b (off + a) (c - a) (l.drop a) _ (by rw [hml]; exact HI0.out) (by rw [hml]; omega))
  rw [hml] at HC
  have HML := hd hml
  clear hml hI
  generalize l.drop a = m at *
  rw [hn] at HC
  have hn9 := (rl_ok hn).2.2.2.2.1
  have hn2 := (rl_ok hn).2.2.2.2.2
  rw [HML.out] at hn9
  clear hn
  have HIE : Hid (IsB (w.alloc (.cells #[.int .i64 0, .int .u64 0, .int .i64 0, .string ⟨#[]⟩, .string ⟨#[]⟩, .int .u64 0, .int .i64 0, .int .i64 0, .int .i64 0, .string ⟨#[]⟩, .int .i64 0, .int .i64 0, .int .i64 0, .int .u32 0] 41)) (.slice (some ⟨b, off + a + 4, none⟩) n (c - a - 4)) ((m.drop 4).take n)) := (HI0.out.drop 4 (by omega) (off + a + 4) (l.length - a - 4) (c - a - 4) (fun _ => rfl) rfl rfl).take n (by rw [List.length_drop, HML.out]; omega)
  have hel : ((m.drop 4).take n).length = n := by rw [List.length_take, List.length_drop, HML.out]; omega
  have HNX := hd (next_row b (off + a + 4) (c - a - 4) ((m.drop 4).take n) 0 (w.alloc (.cells #[.int .i64 0, .int .u64 0, .int .i64 0, .string ⟨#[]⟩, .string ⟨#[]⟩, .int .u64 0, .int .i64 0, .int .i64 0, .int .i64 0, .string ⟨#[]⟩, .int .i64 0, .int .i64 0, .int .i64 0, .int .u32 0] 41)) HIE.out.1 HIE.out.row (by rw [hel]; omega) (by unfold maxLen; omega))
  rw [hel, nxt_zero] at HNX
  have HEL := hd hel
  clear hel
  generalize (m.drop 4).take n = E at *
  have hnx : nx E = n := by have := nx_le E; rw [HEL.out] at this; omega
  rw [hnx] at HNX
  clear h hnx
  have HIT : Hid (IsB (w.alloc (.cells #[.int .i64 0, .int .u64 0, .int .i64 0, .string ⟨#[]⟩, .string ⟨#[]⟩, .int .u64 0, .int .i64 0, .int .i64 0, .int .i64 0, .string ⟨#[]⟩, .int .i64 0, .int .i64 0, .int .i64 0, .int .u32 0] 41)) (.slice (some ⟨b, off + a + (4 + n), none⟩) (l.length - a - (4 + n)) (c - a - (4 + n))) (m.drop (4 + n))) := HI0.out.drop (4 + n) (by omega) (off + a + (4 + n)) (l.length - a - (4 + n)) (c - a - (4 + n)) (fun _ => rfl) rfl rfl
  have hlt5 : 5 ≤ (m.drop (4 + n)).length := by rw [List.length_drop, HML.out]; omega
  have HNU := hd (number_is _ 5 _ (w.alloc (.cells #[.int .i64 0, .int .u64 0, .int .i64 0, .string ⟨#[]⟩, .string ⟨#[]⟩, .int .u64 0, .int .i64 0, .int .i64 0, .int .i64 0, .string ⟨#[]⟩, .int .i64 0, .int .i64 0, .int .i64 0, .int .u32 0] 41)) HIT.out (by omega) (by omega) hlt5)
  clear hlt5
  have HIM : Hid (IsB (w.alloc (.cells #[.int .i64 0, .int .u64 0, .int .i64 0, .string ⟨#[]⟩, .string ⟨#[]⟩, .int .u64 0, .int .i64 0, .int .i64 0, .int .i64 0, .string ⟨#[]⟩, .int .i64 0, .int .i64 0, .int .i64 0, .int .u32 0] 41)) (.slice (some ⟨b, off + a + 1, none⟩) (3 + n) (c - a - 1)) ((m.drop 1).take (3 + n))) := (HI0.out.drop 1 (by omega) (off + a + 1) (l.length - a - 1) (c - a - 1) (fun _ => rfl) rfl rfl).take (3 + n) (by rw [List.length_drop, HML.out]; omega)
  rw [numAns_ok hd5] at HNU
  have hnm : nm ((m.drop (4 + n)).take 5) < 34359738368 := by
    have h1 := nm_lt hd5
    have h2 : (128 : Nat) ^ ((m.drop (4 + n)).take 5).length ≤ 128 ^ 5 := Nat.pow_le_pow_right (by omega) (by rw [List.length_take]; omega)
    have h3 : (128 : Nat) ^ 5 = 34359738368 := by decide
    omega
  clear hd5
  have HSM := hd (sum_one (w.alloc (.cells #[.int .i64 0, .int .u64 0, .int .i64 0, .string ⟨#[]⟩, .string ⟨#[]⟩, .int .u64 0, .int .i64 0, .int .i64 0, .int .i64 0, .string ⟨#[]⟩, .int .i64 0, .int .i64 0, .int .i64 0, .int .u32 0] 41)) _ rfl _ _ HIM.out)
  have hcr := Crc.go_lt 0 ((m.drop 1).take (3 + n))
  have HA0 : Hid (Blk (w.alloc (.cells #[.int .i64 0, .int .u64 0, .int .i64 0, .string ⟨#[]⟩, .string ⟨#[]⟩, .int .u64 0, .int .i64 0, .int .i64 0, .int .i64 0, .string ⟨#[]⟩, .int .i64 0, .int .i64 0, .int .i64 0, .int .u32 0] 41)) w.heap.size 41 [.int .i64 0, .int .u64 0, .int .i64 0, .string ⟨#[]⟩, .string ⟨#[]⟩, .int .u64 0, .int .i64 0, .int .i64 0, .int .i64 0, .string ⟨#[]⟩, .int .i64 0, .int .i64 0, .int .i64 0, .int .u32 0]) := Blk.new w _ _
  generalize nm ((m.drop (4 + n)).take 5) = T at *
  generalize Crc.go 0 ((m.drop 1).take (3 + n)) = S at *
  have hq : (((T : Nat) : Int) != ((S : Nat) : Int)) = false := by simp; omega
  have HELE : Hid (E.length ≤ 281474976710656) := by show E.length ≤ _; rw [HEL.out]; omega
  obtain ⟨k, ⟨rl, rk, rkey, rval⟩, ⟨pl, pk, pa, pn, pkey⟩, ⟨ec, eb, ef, es⟩⟩ := f
  have HOV : Hid (dval (⟨k, ⟨rl, rk, rkey, rval⟩, ⟨pl, pk, pa, pn, pkey⟩, ⟨ec, eb, ef, es⟩⟩, n + 9, 0) = .tuple #[.agg #[.int .i64 k, .int .u64 (rl : Int), .int .i64 rk, .string rkey, .string rval, .int .u64 (pl : Int), .int .i64 pk, .int .i64 pa, .int .i64 pn, .string pkey, .int .i64 ec, .int .i64 eb, .int .i64 ef, .int .u32 (es : Int)], .int .i64 (4 + (n : Int) + 5), .int .i64 0]) := by
    show dval _ = _
    have e : ((n + 9 : Nat) : Int) = 4 + (n : Int) + 5 := by omega
    unfold dval fv
    simp only
    rw [e]
    rfl
  have HO : Hid (opV E = .tuple #[.agg #[.int .i64 k, .int .u64 (rl : Int), .int .i64 rk, .string rkey, .string rval, .int .u64 (pl : Int), .int .i64 pk, .int .i64 pa, .int .i64 pn, .string pkey, .int .i64 ec, .int .i64 eb, .int .i64 ef, .int .u32 (es : Int)], .bool true]) := by
    show opV E = _
    unfold opV; rw [ho]; rfl
  clear ho hs
  go_enter Try.func66, Try.ntmps66
  go_wp2_with fail
  refine Calls.mono HC.out ?_
  rintro e w' ⟨rfl, hw'⟩
  subst hw'
  clear HC
  go_wp2_with fail
  refine Calls.mono HNX.out ?_
  rintro e w' ⟨rfl, hw'⟩
  subst hw'
  clear HNX
  go_wp2_with fail
  refine Calls.mono HNU.out ?_
  rintro e w' ⟨rfl, hw'⟩
  subst hw'
  clear HNU
  go_wp2_with fail
  rw [World.size_alloc] at HSM
  refine Calls.mono HSM.out ?_
  rintro e w1 ⟨rfl, hb⟩
  have hs1 := hb.size
  rw [World.size_alloc] at hs1
  have HA1 := hd (HA0.out.keep (by rw [World.size_alloc]; exact hb))
  have HB1 := hd (below_alloc1 (o := .cells #[.int .i64 0, .int .u64 0, .int .i64 0, .string ⟨#[]⟩, .string ⟨#[]⟩, .int .u64 0, .int .i64 0, .int .i64 0, .int .i64 0, .string ⟨#[]⟩, .int .i64 0, .int .i64 0, .int .i64 0, .int .u32 0] 41) (by rw [World.size_alloc]; exact hb))
  have HE1 := hd (HIE.out.below (by rw [World.size_alloc]; exact hb))
  clear hb HA0 HIE HSM
  go_wp2_with fail
  refine Calls.mono (openF_is _ E w1 HE1.out HELE.out) ?_
  rw [HO.out]
  rintro e w2 ⟨rfl, hb⟩
  have HA2 := hd (HA1.out.keep hb)
  have HB2 : Hid (Below w.heap.size w w2) := HB1.out.trans (hb.mono HB1.out.size)
  have hs2 := hb.size
  have n5 : w.heap.size < w2.heap.size := by omega
  have n6 : ¬ w.heap.size = w2.heap.size := by omega
  have n7 : ¬ w2.heap.size = w.heap.size := by omega
  clear hb HA1 HE1 HB1
  have a0 := HA2.out.cell 0 _ rfl
  have az0 := HA2.out.frozen 0
  have a1 := HA2.out.cell 1 _ rfl
  have az1 := HA2.out.frozen 1
  have a2 := HA2.out.cell 2 _ rfl
  have az2 := HA2.out.frozen 2
  have a3 := HA2.out.cell 3 _ rfl
  have az3 := HA2.out.frozen 3
  have a4 := HA2.out.cell 4 _ rfl
  have az4 := HA2.out.frozen 4
  have a5 := HA2.out.cell 5 _ rfl
  have az5 := HA2.out.frozen 5
  have a6 := HA2.out.cell 6 _ rfl
  have az6 := HA2.out.frozen 6
  have a7 := HA2.out.cell 7 _ rfl
  have az7 := HA2.out.frozen 7
  have a8 := HA2.out.cell 8 _ rfl
  have az8 := HA2.out.frozen 8
  have a9 := HA2.out.cell 9 _ rfl
  have az9 := HA2.out.frozen 9
  have a10 := HA2.out.cell 10 _ rfl
  have az10 := HA2.out.frozen 10
  have a11 := HA2.out.cell 11 _ rfl
  have az11 := HA2.out.frozen 11
  have a12 := HA2.out.cell 12 _ rfl
  have az12 := HA2.out.frozen 12
  have a13 := HA2.out.cell 13 _ rfl
  have az13 := HA2.out.frozen 13
  go_wp2_with fail
  have HF : Hid (Blk ((setL w2 w.heap.size 0 [.int .i64 k, .int .u64 (rl : Int), .int .i64 rk, .string rkey, .string rval, .int .u64 (pl : Int), .int .i64 pk, .int .i64 pa, .int .i64 pn, .string pkey, .int .i64 ec, .int .i64 eb, .int .i64 ef, .int .u32 (es : Int)]).alloc (.cells #[.int .i64 k, .int .u64 (rl : Int), .int .i64 rk, .string rkey, .string rval, .int .u64 (pl : Int), .int .i64 pk, .int .i64 pa, .int .i64 pn, .string pkey, .int .i64 ec, .int .i64 eb, .int .i64 ef, .int .u32 (es : Int)] 41)) w.heap.size 41 [.int .i64 k, .int .u64 (rl : Int), .int .i64 rk, .string rkey, .string rval, .int .u64 (pl : Int), .int .i64 pk, .int .i64 pa, .int .i64 pn, .string pkey, .int .i64 ec, .int .i64 eb, .int .i64 ef, .int .u32 (es : Int)]) := (setL_blk [.int .i64 k, .int .u64 (rl : Int), .int .i64 rk, .string rkey, .string rval, .int .u64 (pl : Int), .int .i64 pk, .int .i64 pa, .int .i64 pn, .string pkey, .int .i64 ec, .int .i64 eb, .int .i64 ef, .int .u32 (es : Int)] _ 0 [] [.int .i64 0, .int .u64 0, .int .i64 0, .string ⟨#[]⟩, .string ⟨#[]⟩, .int .u64 0, .int .i64 0, .int .i64 0, .int .i64 0, .string ⟨#[]⟩, .int .i64 0, .int .i64 0, .int .i64 0, .int .u32 0] rfl rfl HA2.out).alloc _
  refine bodyPost_ret (results_cell3 rfl _ _ w.heap.size 41 #[.int .i64 k, .int .u64 (rl : Int), .int .i64 rk, .string rkey, .string rval, .int .u64 (pl : Int), .int .i64 pk, .int .i64 pa, .int .i64 pn, .string pkey, .int .i64 ec, .int .i64 eb, .int .i64 ef, .int .u32 (es : Int)] (0, 0) _ rfl HF.out Try.underlying41 rfl (by kernel_rfl)) rfl ?_
  exact ⟨by rw [HOV.out]; rfl, ((setL_keepO (B := w.heap.size) (O := w.heap.size) [.int .i64 k, .int .u64 (rl : Int), .int .i64 rk, .string rkey, .string rval, .int .u64 (pl : Int), .int .i64 pk, .int .i64 pa, .int .i64 pn, .string pkey, .int .i64 ec, .int .i64 eb, .int .i64 ef, .int .u32 (es : Int)] _ w 0 (Nat.le_refl _) (KeepO.of_below HB2.out)).trans (KeepO.alloc _ _ _)).below (Nat.le_refl _) (Nat.le_refl _)⟩
theorem decode_all (v : Value) (l : List Nat) (z : Int) (w : World) (hI : IsB w v l) :
    Calls Try.prog 66 #[v, .int .i64 z] w fun e w' => e = .returned (dval (decF l z)) ∧ Below w.heap.size w w' := by
  unfold decF
  by_cases h : z < 0 ∨ (l.length : Int) ≤ z
  · rw [if_pos h]; exact decF_arg v l z w hI h
  · rw [if_neg h]
    obtain ⟨a, rfl⟩ : ∃ a : Nat, z = (a : Int) := ⟨z.toNat, by omega⟩
    rw [Int.toNat_natCast]
    have ha : a < l.length := by omega
    obtain ⟨_, _, ⟨rfl, _⟩ | ⟨b, off, c, rfl, _⟩⟩ := id hI
    · simp at ha
    · unfold dcd
      by_cases h1 : (rl (l.drop a)).2 ≠ 0
      · rw [if_pos h1]; exact decF_len b off c a l w hI ha h1
      · rw [if_neg h1]
        obtain ⟨n, er, hn⟩ : ∃ n er, rl (l.drop a) = (n, er) := ⟨_, _, rfl⟩
        rw [hn] at h1 ⊢
        simp only at h1 ⊢
        obtain rfl : er = 0 := by omega
        by_cases h2 : nx (((l.drop a).drop 4).take n) < n
        · rw [if_pos h2]; exact decF_lead b off c a l w hI ha n hn h2
        · rw [if_neg h2]
          by_cases h3 : ∀ x ∈ ((l.drop a).drop (4 + n)).take 5, x < 128
          · by_cases h4 : nm (((l.drop a).drop (4 + n)).take 5) = Crc.go 0 (((l.drop a).drop 1).take (3 + n))
            · rw [if_neg (fun q => q ⟨h3, h4⟩)]
              cases ho : opF (((l.drop a).drop 4).take n) with
              | none => exact decF_none b off c a l w hI ha n hn h2 h3 h4 ho
              | some f => exact decF_some b off c a l w hI ha n hn h2 h3 h4 f ho
            · rw [if_pos (fun q => h4 q.2)]; exact decF_sum b off c a l w hI ha n hn h2 h3 h4
          · rw [if_pos (fun q => h3 q.1)]; exact decF_dig b off c a l w hI ha n hn h2 h3
end Vt
end Go.Proofs.Ytlddogigbodilaa
namespace Go.Proofs.Ytlddogigbodilaa
open Go.RowKit
namespace Vt
theorem or128 (m : Nat) : bits .or .u8 ((m : Int) % 256) 128 = ((m % 128 + 128 : Nat) : Int) := by
  have all : ∀ c : Fin 256, bits .or .u8 (c.val : Int) 128 = ((c.val % 128 + 128 : Nat) : Int) := by decide +kernel
  have := all ⟨m % 256, by omega⟩
  simp only at this
  rw [show (m : Int) % 256 = ((m % 256 : Nat) : Int) by omega, this]
  congr 2
  omega
set_option maxRecDepth 100000 in
set_option maxHeartbeats 400000 in
theorem encode_row (b off c : Nat) (l : List Nat) (w : World) (hl : N64 l) (hb : b < w.heap.size) (hr : RowK .u64 w b off l) (hm : l.length ≤ 17592186044416) :
    Calls Try.prog 100 #[.slice (some ⟨b, off, none⟩) l.length c] w fun e w' => e = .returned (.slice (some ⟨w.heap.size, 0, none⟩) (enc l).length (enc l).length) ∧ JB w' w.heap.size (.slice (some ⟨w.heap.size, 0, none⟩) (enc l).length (enc l).length) (enc l) ∧ Below w.heap.size w w' := by
  have HC := hd (size_row b off c l w hl hr (by omega))
  have hlen := enc_len hl
  have HR := hd hr
  have HL := hd hl
  obtain ⟨i0, hi, hz0, hz1, hz2⟩ := info_parts info_u8
  clear hr hl
  generalize hcap : (enc l).length = cap at *
  have HCAP := hd hcap
  clear hcap
  go_enter Try.func100, Try.ntmps100
  go_wp2_with fail
  refine Calls.mono HC.out ?_
  rintro e w' ⟨rfl, rfl⟩
  clear HC
  go_wp2_with (at_make; refine wpList_make_own _ rfl _ _ 22 rfl w'.heap.size 5 i0 (.int .u8 0) 1 Try.underlying22 hi hz0 hz1 .i64 .i64 (cap : Int) cap rfl rfl rfl (by rw [hz2]; omega) (by unfold maxLen; omega) (Nat.le_refl _) ?_; intro w1 hown hgrow)
  have HB1 : Hid (Below w'.heap.size w' w1) := (Below.refl _ _).grown hgrow (Nat.le_refl _) (fun k hk => by cases hk)
  have HO1 : Hid (JB w1 w'.heap.size (.slice (some ⟨w'.heap.size, 0, none⟩) 0 cap) []) := ⟨byt_nil, hown⟩
  clear hown hgrow
  go_loopw [3, 11] (fun v i wr => ∃ k : Nat, k ≤ l.length ∧ i = .int .i64 (k : Int) ∧ v = .slice (some ⟨w'.heap.size, 0, none⟩) (enc (l.take k)).length cap ∧ JB wr w'.heap.size (.slice (some ⟨w'.heap.size, 0, none⟩) (enc (l.take k)).length cap) (enc (l.take k)) ∧ Below w'.heap.size w' wr) (fun _ i _ => l.length - (intOf i).toNat)
  case atStart => exact ⟨0, by omega, rfl, rfl, HO1.out, HB1.out⟩
  case round =>
    clear HO1 HB1
    obtain ⟨k, hk, rfl, rfl, hJ, hB⟩ := hrel
    have HJ := hd hJ
    have HB := hd hB
    clear hJ hB
    by_cases hlt : k < l.length
    · have hc : wr.cell? ⟨b, off + k, none⟩ = some (.int .u64 ((l.getD k 0 : Nat) : Int)) := by
        rw [HB.out.cell hb]; exact HR.out k hlt
      have hx := HL.out.at k
      have HE := hd (enc_succ hlt)
      have HEC : Hid ((enc (l.take (k + 1))).length ≤ cap) := by
        show (enc (l.take (k + 1))).length ≤ cap
        rw [← HCAP.out]
        have : enc l = enc (l.take (k + 1)) ++ enc (l.drop (k + 1)) := by rw [← enc_append, List.take_append_drop]
        rw [this, List.length_append]; omega
      generalize l.getD k 0 = x at *
      generalize henc : enc (l.take k) = acc at *
      go_wp2_with fail
      go_loopw [3, 5] (fun v y wi => ∃ (m : Nat) (pre : List Nat), m < 18446744073709551616 ∧ y = .int .u64 (m : Int) ∧ vrt x = pre ++ vrt m ∧ v = .slice (some ⟨w'.heap.size, 0, none⟩) (acc.length + pre.length) cap ∧ JB wi w'.heap.size (.slice (some ⟨w'.heap.size, 0, none⟩) (acc.length + pre.length) cap) (acc ++ pre) ∧ Below w'.heap.size w' wi) (fun _ y _ => (intOf y).toNat)
      case atStart => exact ⟨x, [], hx, rfl, rfl, rfl, by simpa using HJ.out, HB.out⟩
      case round =>
        clear HJ HB hc
        obtain ⟨m, pre, hm2, rfl, hv, rfl, hJ, hB⟩ := hrel
        have HJ := hd hJ
        have HB := hd hB
        have HV := hd hv
        clear hJ hB hv
        have HO : Hid (wr.ownsRow w'.heap.size 5 1 (.slice (some ⟨w'.heap.size, 0, none⟩) (acc.length + pre.length) cap) (acc.length + pre.length) (bs (acc ++ pre))) := by
          have := HJ.out.2
          rw [List.length_append] at this; exact this
        have hfit : acc.length + pre.length + 1 ≤ cap := by
          have h1 := HEC.out
          have h2 := vrt_len m
          rw [HE.out, HV.out, List.length_append, List.length_append] at h1
          omega
        by_cases h128 : 128 ≤ m
        · go_wp2_with (at_builtin; refine wpList_append_fits _ rfl _ _ 22 rfl w'.heap.size 5 i0 1 Try.underlying22 hi hz1 w'.heap.size (acc.length + pre.length) cap (bs (acc ++ pre)) rfl (HO.out.alloc _) ⟨wr.heap.size, 0, none⟩ 1 1 [_] rfl rfl (cell_one_new _ _ _) (by simp [Value.oneCell']) hfit ?_; intro w2 hown2 hgrow2)
          have HO2 := hd (jb_snoc (or128 m) (by omega) HJ.out.1 (by rw [List.length_append]) hown2)
          have HB2 := hd ((HB.out.alloc HB.out.size _).grown hgrow2 (by have := HB.out.size; simp; omega) (fun k hk => by cases hk; exact Nat.le_refl _))
          clear hown2 hgrow2 HO
          go_roundw
          case rel =>
            refine ⟨m / 128, pre ++ [m % 128 + 128], by omega, by go_num, ?_, ?_, ?_, HB2.out⟩
            · rw [HV.out, vrt_big h128, List.append_assoc]; rfl
            · rw [List.length_append]; rfl
            · rw [← List.append_assoc, List.length_append]; exact HO2.out
          case measure => simp [intOf]; omega
        · go_wp2_with (at_builtin; refine wpList_append_fits _ rfl _ _ 22 rfl w'.heap.size 5 i0 1 Try.underlying22 hi hz1 w'.heap.size (acc.length + pre.length) cap (bs (acc ++ pre)) rfl (HO.out.alloc _) ⟨wr.heap.size, 0, none⟩ 1 1 [_] rfl rfl (cell_one_new _ _ _) (by simp [Value.oneCell']) hfit ?_; intro w2 hown2 hgrow2)
          have HO2 := hd (jb_snoc (y := m) (by omega) (by omega) HJ.out.1 (by rw [List.length_append]) hown2)
          have HB2 := hd ((HB.out.alloc HB.out.size _).grown hgrow2 (by have := HB.out.size; simp; omega) (fun k hk => by cases hk; exact Nat.le_refl _))
          have HF : Hid (acc ++ pre ++ [m] = enc (l.take (k + 1))) := by
            show acc ++ pre ++ [m] = enc (l.take (k + 1))
            rw [HE.out, HV.out, vrt_small (by omega), List.append_assoc]
          have HFL : Hid (acc.length + pre.length + 1 = (enc (l.take (k + 1))).length) := by
            show acc.length + pre.length + 1 = (enc (l.take (k + 1))).length
            rw [← HF.out]; simp; omega
          rw [HF.out, HFL.out] at HO2
          clear hown2 hgrow2 HO
          rw [HFL.out]
          go_roundw
          case rel => exact ⟨k + 1, by omega, by go_num, rfl, HO2.out, HB2.out⟩
          case measure => simp [intOf]; omega
    · obtain rfl : k = l.length := by omega
      rw [List.take_length, HCAP.out] at HJ
      go_wp2
      go_ret
      exact ⟨by rw [show (enc (l.take l.length)).length = cap by rw [List.take_length]; exact HCAP.out]; rfl, HJ.out, HB.out⟩
set_option maxRecDepth 100000 in
set_option maxHeartbeats 400000 in
theorem encode_nil (a : Option Addr) (c : Nat) (w : World) :
    Calls Try.prog 100 #[.slice a 0 c] w fun e w' => e = .returned (.slice (some ⟨w.heap.size, 0, none⟩) 0 0) ∧ JB w' w.heap.size (.slice (some ⟨w.heap.size, 0, none⟩) 0 0) [] ∧ Below w.heap.size w w' := by
  obtain ⟨i0, hi, hz0, hz1, hz2⟩ := info_parts info_u8
  go_enter Try.func100, Try.ntmps100
  go_wp2_with fail
  refine Calls.mono (size_nil a c w) ?_
  rintro e w' ⟨rfl, rfl⟩
  go_wp2_with (at_make; refine wpList_make_own _ rfl _ _ 22 rfl w'.heap.size 5 i0 (.int .u8 0) 1 Try.underlying22 hi hz0 hz1 .i64 .i64 0 0 rfl rfl rfl (by rw [hz2]; omega) (by unfold maxLen; omega) (Nat.le_refl _) ?_; intro w1 hown hgrow)
  have HB1 : Hid (Below w'.heap.size w' w1) := (Below.refl _ _).grown hgrow (Nat.le_refl _) (fun k hk => by cases hk)
  have HO1 : Hid (JB w1 w'.heap.size (.slice (some ⟨w'.heap.size, 0, none⟩) 0 0) []) := ⟨byt_nil, hown⟩
  clear hown hgrow
  go_loopw [3, 11] (fun v i wr => i = .int .i64 0 ∧ v = .slice (some ⟨w'.heap.size, 0, none⟩) 0 0 ∧ wr = w1) (fun _ _ _ => 0)
  case atStart => exact ⟨rfl, rfl, rfl⟩
  case round =>
    obtain ⟨rfl, rfl, rfl⟩ := hrel
    go_wp2
    go_ret
    exact ⟨rfl, HO1.out, HB1.out⟩
theorem encode_is (v : Value) (l : List Nat) (w : World) (h : IsN w v l) (hm : l.length ≤ 17592186044416) :
    Calls Try.prog 100 #[v] w fun e w' => e = .returned (.slice (some ⟨w.heap.size, 0, none⟩) (enc l).length (enc l).length) ∧ JB w' w.heap.size (.slice (some ⟨w.heap.size, 0, none⟩) (enc l).length (enc l).length) (enc l) ∧ Below w.heap.size w w' := by
  obtain ⟨hl, _, ⟨rfl, a, c, rfl⟩ | ⟨b, off, c, rfl, _, _, hb, hr⟩⟩ := h
  · exact encode_nil a c w
  · exact encode_row b off c l w hl hb hr hm
end Vt
end Go.Proofs.Ytlddogigbodilaa
namespace Go.Proofs.Ytlddogigbodilaa
open Go.RowKit
namespace Vt
theorem ps_lit (W : World) (vl : List Value) (ls : List (List Nat)) (t : TypeId) (hl : vl.length = ls.length) (h : ∀ i v, vl[i]? = some v → IsB W v (ls.getD i [])) : Ps (W.alloc (.cells vl.toArray t)) W.heap.size 0 ls := by
  intro i hi
  have hv : vl[i]? = some vl[i] := List.getElem?_eq_getElem (by omega)
  refine ⟨vl[i], ?_, (h i _ hv).below ((Below.refl _ _).alloc (Nat.le_refl _) _)⟩
  rw [Nat.zero_add, World.cell?_alloc_new]
  simp
theorem JB.base {w : World} {base base' : Nat} {v : Value} {l : List Nat} (h : JB w base v l) (hb : base' ≤ base) : JB w base' v l := by
  refine ⟨h.1, h.2.1, ?_⟩
  rcases h.2.2 with h | ⟨g, cap, cur, h1, h2, h3⟩
  · exact .inl h
  · exact .inr ⟨g, cap, cur, h1, by omega, h3⟩
/-- a string's bytes, in new memory -/
theorem conv_bytes (w : World) (s : ByteArray) (hs : s.size ≤ maxLen) : ∃ c w', (convert 9 22 (.string s)).run Try.prog w = .ok (.slice (some ⟨w.heap.size, 0, none⟩) s.size c) w' ∧ IsB w' (.slice (some ⟨w.heap.size, 0, none⟩) s.size c) (bl s) ∧ Below w.heap.size w w' := by
  refine ⟨_, _, Lib.run_convert_string_bytes w _ _ 5 s Try.underlying9 Try.underlying22 Try.underlying5, ⟨bl_byt s, by rw [bl_len]; exact hs, .inr ⟨w.heap.size, 0, _, by rw [bl_len], by rw [bl_len]; exact grownCap_ge _ _ _ _, grownCap_le_maxLen _ _ _ _ hs, by rw [Lib.bytesWorld_size]; omega, fun j hj => ?_⟩⟩, ⟨?_, ?_, ?_, by rw [Lib.bytesWorld_size]; omega, fun i hi => Lib.bytesWorld_at_old w _ s i hi⟩⟩
  · rw [bl_len] at hj
    rw [Nat.zero_add]
    have h := Lib.bytesWorld_cell w 5 s j hj
    rw [h]
    unfold bl
    rw [List.getD_eq_getElem?_getD, List.getD_eq_getElem?_getD, List.getElem?_map]
    cases s.data.toList[j]? <;> rfl
  · simp [Lib.bytesWorld, World.freeze, World.alloc, World.drew, -World.alloc_eq, -World.drew_eq]
  · simp [Lib.bytesWorld, World.freeze, World.alloc, World.drew, -World.alloc_eq, -World.drew_eq]
  · simp [Lib.bytesWorld, World.freeze, World.alloc, World.drew, -World.alloc_eq, -World.drew_eq]
set_option maxRecDepth 100000 in
set_option maxHeartbeats 1000000 in
theorem body_no (f : Fr) (w : World) (h : rf f ≠ 0) : Calls Try.prog 83 #[.agg (fv f)] w fun e w' => e = .returned (.tuple #[.slice none 0 0, .int .i64 (rf f : Int)]) ∧ Below w.heap.size w w' := by
  have HC := hd (refusal_is f)
  have hne : (((rf f : Nat) : Int) != 0) = true := by simp; omega
  generalize rf f = code at *
  clear h
  obtain ⟨k, ⟨rl, rk, rkey, rval⟩, ⟨pl, pk, pa, pn, pkey⟩, ⟨ec, eb, ef, es⟩⟩ := f
  simp only [fv] at *
  go_enter Try.func83, Try.ntmps83
  go_wp2_with fail
  refine Calls.mono (HC.out _) ?_
  rintro e w1 ⟨rfl, hb⟩
  have HB := hd (below_alloc1 hb)
  clear hb
  go_wp2_with fail
  go_ret2
  exact ⟨rfl, HB.out⟩
set_option maxRecDepth 100000 in
set_option maxHeartbeats 1000000 in
theorem body_1 (lsn : Nat) (key val : ByteArray) (w : World) (hl : lsn < 18446744073709551616) (h : rf (ofR ⟨lsn, 1, key, val⟩) = 0) :
    Calls Try.prog 83 #[.agg (fv (ofR ⟨lsn, 1, key, val⟩))] w fun e w' => ∃ u, e = .returned (.tuple #[u, .int .i64 0]) ∧ JB w' w.heap.size u (bd (ofR ⟨lsn, 1, key, val⟩)) ∧ Below w.heap.size w w' := by
  have HC := hd (refusal_is (ofR ⟨lsn, 1, key, val⟩))
  obtain ⟨hb1, hb2⟩ := bd_len (f := ofR ⟨lsn, 1, key, val⟩) ⟨hl, by show 0 < 18446744073709551616; omega, by show 0 < 4294967296; omega⟩ h
  have hk : key.size ≤ 64 ∧ val.size ≤ 2048 := by
    have h' := h
    unfold rf at h'
    rw [if_pos (.inl rfl)] at h'
    obtain ⟨_, _, q3, q4, _⟩ := rfR_ok h'
    exact ⟨q3.2, q4⟩
  have HBP : Hid (bp (ofR ⟨lsn, 1, key, val⟩) = [[1], enc [lsn, key.size], bl key, bl val]) := by
    show bp (ofR ⟨lsn, 1, key, val⟩) = _
    unfold bp ofR
    rw [if_pos rfl]; rfl
  have HBD : Hid (bd (ofR ⟨lsn, 1, key, val⟩) = [[1], enc [lsn, key.size], bl key, bl val].flatten) := by
    show bd _ = _
    unfold bd; rw [HBP.out]
  rw [HBD.out] at hb1 hb2 ⊢
  obtain ⟨hk1, hk2⟩ := hk
  rw [h] at HC
  clear h HBP HBD
  simp only [fv, ofR, zp, ze] at *
  go_enter Try.func83, Try.ntmps83
  go_wp2_with fail
  refine Calls.mono (HC.out _) ?_
  rintro e w1 ⟨rfl, hb⟩
  have HX : Hid (Blk w1 w.heap.size 41 [.int .i64 1, .int .u64 (lsn : Int), .int .i64 1, .string key, .string val, .int .u64 0, .int .i64 0, .int .i64 0, .int .i64 0, .string ByteArray.empty, .int .i64 0, .int .i64 0, .int .i64 0, .int .u32 0]) := (Blk.new w _ _).keep hb
  have HB := hd (below_alloc1 hb)
  have hs1 := hb.size
  rw [World.size_alloc] at hs1
  clear hb HC
  have c0 := HX.out.cell 0 _ rfl
  have c1 := HX.out.cell 1 _ rfl
  have c2 := HX.out.cell 2 _ rfl
  have c3 := HX.out.cell 3 _ rfl
  have c4 := HX.out.cell 4 _ rfl
  clear HX
  have n1 : w.heap.size < w1.heap.size := by omega
  have n2 : ¬ w.heap.size = w1.heap.size := by omega
  have n3 : ¬ w1.heap.size = w.heap.size := by omega
  have n4 : ¬ w.heap.size = w1.heap.size + 1 := by omega
  have n5 : ¬ w1.heap.size + 1 = w.heap.size := by omega
  have n6 : w.heap.size < w1.heap.size + 1 := by omega
  go_wp2_with fail
  obtain ⟨X, hX⟩ : ∃ X, X = (w1.alloc (.cells #[.int .u8 1] 5)).alloc (.cells #[.int .u64 (lsn : Int), .int .i64 1, .string key, .string val] 32) := ⟨_, rfl⟩
  have HXS : Hid (X.heap.size = w1.heap.size + 1 + 1) := by show X.heap.size = _; rw [hX]; simp
  have HXB : Hid (Below w.heap.size w X) := by rw [hX]; exact (HB.out.alloc (by omega) _).alloc (by simp; omega) _
  have HK : Hid (IsB X (.slice (some ⟨w1.heap.size, 0, none⟩) 1 1) [1]) := by
    rw [hX]
    exact (lit_isK_at .u8 256 w1 #[.int .u8 1] 5 [1] 1 _ rfl rfl rfl (by simp) (by simp [maxLen])).below ((Below.refl _ _).alloc (Nat.le_refl _) _)
  have HR : Hid (Blk X (w1.heap.size + 1) 32 [.int .u64 (lsn : Int), .int .i64 1, .string key, .string val]) := by
    rw [hX]
    have := Blk.new (w1.alloc (.cells #[.int .u8 1] 5)) 32 [.int .u64 (lsn : Int), .int .i64 1, .string key, .string val]
    rw [World.size_alloc] at this
    exact this
  rw [← hX]
  have hlit := lit_isK_at .u64 18446744073709551616 X #[.int .u64 (lsn : Int), .int .u64 (key.size : Int)] 30 [lsn, key.size] 2 (w1.heap.size + 1 + 1) HXS.out rfl rfl (by intro x hx; simp at hx; omega) (by simp [maxLen])
  refine Calls.mono (encode_is _ [lsn, key.size] _ hlit (by simp)) ?_
  rintro e w2 ⟨rfl, hj, hb⟩
  have HB2 : Hid (Below X.heap.size X w2) := below_alloc1 hb
  have HJ := hd hj.isB
  have hs2 := HB2.out.size
  clear hb hj hlit hX c0 c1 c2 c3 c4
  have HK2 := hd (HK.out.below HB2.out)
  have HR2 := hd (HR.out.keep HB2.out)
  have HXB2 : Hid (Below w.heap.size w w2) := HXB.out.trans (HB2.out.mono HXB.out.size)
  rw [World.size_alloc] at HJ ⊢
  clear HK HR HXB HB2 HB
  obtain ⟨cc1, w3, hc1, hi1, hbb1⟩ := conv_bytes w2 key (by unfold maxLen; omega)
  have d2 := HR2.out.cell 2 _ rfl
  have HR3 := hd (HR2.out.keep hbb1)
  have d3 := HR3.out.cell 3 _ rfl
  have HI1 := hd hi1
  have HJ3 := hd (HJ.out.below hbb1)
  have HK3 := hd (HK2.out.below hbb1)
  have HB3 : Hid (Below w.heap.size w w3) := HXB2.out.trans (hbb1.mono HXB2.out.size)
  clear hi1 hbb1 HR2 HJ HK2 HXB2
  obtain ⟨cc2, w4, hc2, hi2, hbb2⟩ := conv_bytes w3 val (by unfold maxLen; omega)
  have HI2 := hd hi2
  have HI14 := hd (HI1.out.below hbb2)
  have HJ4 := hd (HJ3.out.below hbb2)
  have HK4 := hd (HK3.out.below hbb2)
  have HB4 : Hid (Below w.heap.size w w4) := HB3.out.trans (hbb2.mono HB3.out.size)
  clear hi2 hbb2 HI1 HJ3 HK3 HB3 HR3
  have HP := hd (ps_lit w4 [.slice (some ⟨w1.heap.size, 0, none⟩) 1 1, .slice (some ⟨X.heap.size + 1, 0, none⟩) (enc [lsn, key.size]).length (enc [lsn, key.size]).length, .slice (some ⟨w2.heap.size, 0, none⟩) key.size cc1, .slice (some ⟨w3.heap.size, 0, none⟩) val.size cc2] [[1], enc [lsn, key.size], bl key, bl val] 22 rfl (by
    intro i v hv
    match i, hv with
    | 0, hv => cases hv; exact HK4.out
    | 1, hv => cases hv; exact HJ4.out
    | 2, hv => cases hv; exact HI14.out
    | 3, hv => cases hv; exact HI2.out
    | i + 4, hv => simp at hv))
  have HCC := hd (concat_row w4.heap.size 0 4 _ _ (by simp) (by simp) HP.out (by omega) (by omega))
  clear HP HI2 HI14 HJ4 HK4
  go_wp2_with fail
  refine Calls.mono HCC.out ?_
  rintro e w5 ⟨u, rfl, hj5, hb5⟩
  have HJ5 := hd (hj5.base (base' := w.heap.size) (by have := HB4.out.size; rw [World.size_alloc]; omega))
  have HB5 : Hid (Below w.heap.size w w5) := HB4.out.trans ((below_alloc1 hb5).mono HB4.out.size)
  clear hj5 hb5 HCC
  go_wp2_with fail
  go_ret2
  exact ⟨u, rfl, HJ5.out, HB5.out⟩
end Vt
end Go.Proofs.Ytlddogigbodilaa
