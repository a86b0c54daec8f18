/-
  THE REFERENCE OF LAYER 4: length: the three digits behind a place.
  THE WALKS OF THE DOCUMENT'S OWN Turned and step (package salvorref1): they come to plain functions.
  THE WALKS OF THE DOCUMENT'S OWN ANSWER (package salvorref1): bit, GoOn come to the same plain function of a sum and bytes.
-/
import Derived.Test.YtlddogigbodilaaMbc
import Derived.Test.YtlddogigbodilaaMan
import Derived.Test.YtlddogigbodilaaMam
import Derived.Test.YtlddogigbodilaaMay
import Derived.Test.YtlddogigbodilaaMaa
namespace Go.Proofs.Ytlddogigbodilaa
open Go.RowKit
namespace Vt
open Classical in
/-- what length answers: of the bytes from a place on -/
noncomputable def lnR (m : List Nat) : Nat × Nat := if ¬ ∀ x ∈ dig m, x < 128 then (0, 42) else if m.length < 4 then (0, 43) else (nm (dig m), 0)
theorem dig_at {m : List Nat} {j : Nat} (hj : j < 3) (hl : j + 1 < m.length) : m.getD (j + 1) 0 ∈ dig m := by
  unfold dig
  rw [List.getD_eq_getElem?_getD, List.getElem?_eq_getElem hl]
  refine List.mem_iff_getElem?.2 ⟨j, ?_⟩
  rw [List.getElem?_take_of_lt hj, List.getElem?_drop, show 1 + j = j + 1 by omega, List.getElem?_eq_getElem hl]
  rfl
theorem dig_next {m : List Nat} {j : Nat} (hl : j + 1 < m.length) : (m.drop 1).take (j + 1) = (m.drop 1).take j ++ [m.getD (j + 1) 0] := by
  have h : j < (m.drop 1).length := by rw [List.length_drop]; omega
  rw [take_succ_getD h, List.getD_eq_getElem?_getD, List.getD_eq_getElem?_getD, List.getElem?_drop, show 1 + j = j + 1 by omega]
theorem lnR_42 {m : List Nat} (h : ¬ ∀ x ∈ dig m, x < 128) : lnR m = (0, 42) := by unfold lnR; rw [if_pos h]
theorem lnR_43 {m : List Nat} (h : ∀ x ∈ dig m, x < 128) (h2 : m.length < 4) : lnR m = (0, 43) := by unfold lnR; rw [if_neg (fun q => q h), if_pos h2]
theorem lnR_0 {m : List Nat} (h : ∀ x ∈ dig m, x < 128) (h2 : ¬ m.length < 4) : lnR m = (nm (dig m), 0) := by unfold lnR; rw [if_neg (fun q => q h), if_neg h2]
attribute [local go_sem] Oper.semAt_some
set_option maxRecDepth 100000 in
set_option maxHeartbeats 1000000 in
theorem r4_length (b off c at_ : Nat) (l : List Nat) (w : World) (hI : IsB w (.slice (some ⟨b, off, none⟩) l.length c) l) (ha : at_ < l.length) (hm : l.length ≤ 9223372036854775000) :
    Calls Try.prog 72 #[.slice (some ⟨b, off, none⟩) l.length c, .int .i64 (at_ : Int)] w fun e w' => e = .returned (.tuple #[.int .i64 ((lnR (l.drop at_)).1 : Int), .int .i64 ((lnR (l.drop at_)).2 : Int)]) ∧ w' = w := by
  have HI := hd hI
  clear hI
  go_enter Try.func72, Try.ntmps72
  go_wp2_with fail
  go_loopw [6, 7] (fun x y wi => ∃ j : Nat, j ≤ 3 ∧ y = .int .i64 ((j + 1 : Nat) : Int) ∧ x = .int .i64 (nm (((l.drop at_).drop 1).take j) : Int) ∧ j + 1 ≤ (l.drop at_).length ∧ (∀ z ∈ ((l.drop at_).drop 1).take j, z < 128) ∧ wi = w) (fun _ y _ => 4 - (intOf y).toNat)
  case atStart => exact ⟨0, by omega, rfl, rfl, by rw [List.length_drop]; omega, by simp, rfl⟩
  case round =>
    obtain ⟨j, hj, rfl, rfl, hjl, hall, rfl⟩ := hrel
    have hdl : (l.drop at_).length = l.length - at_ := List.length_drop
    have HAL := hd hall
    have hnl := nm_lt hall
    have htl : (((l.drop at_).drop 1).take j).length = j := by rw [List.length_take, List.length_drop]; omega
    rw [htl] at hnl
    have hp : 128 ^ j ≤ 2097152 := Nat.le_trans (Nat.pow_le_pow_right (by omega) hj) (by decide)
    obtain ⟨nv, hnv⟩ : ∃ nv, nv = nm (((l.drop at_).drop 1).take j) := ⟨_, rfl⟩
    rw [← hnv] at hnl ⊢
    have HNV := hd hnv
    have hnb : nv < 2097152 := by omega
    clear hall hnl htl hp hnv
    by_cases hj3 : j < 3
    · have hj3' : ((j + 1 : Nat) : Int) ≤ 3 := by omega
      obtain ⟨J, hJ⟩ : ∃ J, J = j + 1 := ⟨_, rfl⟩
      rw [← hJ] at hj3' ⊢
      by_cases hsh : at_ + J < l.length
      · have hge : ¬ (at_ : Int) + (J : Int) ≥ (l.length : Int) := by omega
        obtain ⟨q, hq⟩ : ∃ q, q = at_ + J := ⟨_, rfl⟩
        have r0 := HI.out.row (at_ + J) hsh
        have hcb : l.getD (at_ + J) 0 < 256 := getD_lt HI.out.1 _
        have hgd : (l.drop at_).getD J 0 = l.getD (at_ + J) 0 := by rw [List.getD_eq_getElem?_getD, List.getD_eq_getElem?_getD, List.getElem?_drop]
        have hmem := dig_at (m := l.drop at_) hj3 (by rw [← hJ]; omega)
        have hnx := dig_next (m := l.drop at_) (j := j) (by rw [← hJ]; omega)
        rw [← hJ, hgd] at hmem hnx
        generalize l.getD (at_ + J) 0 = ch at *
        by_cases hbad : ch < 128
        · have hb1 : ¬ (ch : Int) > 127 := by omega
          have HNX : Hid (nm (((l.drop at_).drop 1).take J) = 128 * nv + ch) := hd (by rw [hnx, nm_snoc, HNV.out]; omega)
          have HAL2 : Hid (∀ z ∈ ((l.drop at_).drop 1).take J, z < 128) := fun z hz => by
            rw [hnx] at hz
            rcases List.mem_append.1 hz with h | h
            · exact HAL.out z h
            · rw [List.mem_singleton] at h; omega
          have HJJ := hd hJ
          clear hJ hq hgd hmem hnx
          go_wp2_with fail
          go_roundw
          case rel => exact ⟨J, by have := HJJ.out; omega, by go_num, by rw [HNX.out]; go_num, by have := HJJ.out; omega, HAL2.out, trivial⟩
          case measure => simp [intOf]; omega
        · have hb1 : (ch : Int) > 127 := by omega
          have HR := hd (lnR_42 (m := l.drop at_) (fun h => hbad (h _ hmem)))
          clear hJ hq hgd hmem hnx
          go_wp2_with fail
          go_ret2
          exact ⟨by rw [HR.out]; rfl, rfl⟩
      · have hge : (at_ : Int) + (J : Int) ≥ (l.length : Int) := by omega
        have hdg : dig (l.drop at_) = ((l.drop at_).drop 1).take j := by
          unfold dig
          rw [List.take_of_length_le (by rw [List.length_drop]; omega), List.take_of_length_le (by rw [List.length_drop]; omega)]
        have HR := hd (lnR_43 (m := l.drop at_) (by rw [hdg]; exact HAL.out) (by omega))
        clear hJ hdg
        go_wp2_with fail
        go_ret2
        exact ⟨by rw [HR.out]; rfl, rfl⟩
    · obtain rfl : j = 3 := by omega
      have HR := hd (lnR_0 (m := l.drop at_) HAL.out (by omega))
      have HD : Hid (nm (dig (l.drop at_)) = nv) := hd (by rw [HNV.out]; rfl)
      go_wp2_with fail
      go_ret2
      exact ⟨by rw [HR.out, HD.out]; rfl, rfl⟩
end Vt
end Go.Proofs.Ytlddogigbodilaa
namespace Go.Proofs.Ytlddogigbodilaa
open Go.RowKit
set_option maxRecDepth 100000 in
set_option maxHeartbeats 400000 in
theorem turned_any (x : Nat) (w : World) (hx : x < 4294967296) :
    Calls Try.prog 108 #[.int .u32 (x : Int)] w fun e w' => e = .returned (.int .u32 ((Crc.tu x : Nat) : Int)) ∧ w' = w := by
  go_enter Try.func108, Try.ntmps108
  go_wp2
  go_loop [0, 3, 4] (fun u y i => ∃ k z t : Nat, k ≤ 32 ∧ z < 4294967296 ∧ z = x / 2 ^ k ∧ t < 2 ^ k ∧ t = Crc.ty k x ∧ i = .int .i64 k ∧ u = .int .u32 (z : Int) ∧ y = .int .u32 (t : Int)) (fun _ _ i => 32 - (intOf i).toNat)
  case atStart => exact ⟨0, x, 0, by omega, hx, by simp, by simp, rfl, rfl, rfl, rfl⟩
  case round =>
    obtain ⟨k, z, t, hk, hz, ez, ht, et, rfl, rfl, rfl⟩ := hrel
    by_cases hlt : k < 32
    · have hp : 2 ^ k ≤ 2147483648 := Nat.pow_le_pow_right (n := 2) (by decide) (by omega : k ≤ 31)
      have HN : Hid (Crc.ty (k + 1) x = 2 * t + z % 2) := by
        show Crc.ty (k + 1) x = 2 * t + z % 2
        rw [Crc.ty, et, ez]
      have HZ : Hid (z / 2 = x / 2 ^ (k + 1)) := by
        show z / 2 = x / 2 ^ (k + 1)
        rw [ez, Nat.pow_succ, Nat.div_div_eq_div_mul]
      have ht2 : t < 2147483648 := by omega
      have HP : Hid (2 * t + z % 2 < 2 ^ (k + 1)) := by
        show 2 * t + z % 2 < 2 ^ (k + 1)
        rw [Nat.pow_succ]; omega
      clear ez et hp ht
      go_wp2
      go_round
      case rel => exact ⟨k + 1, z / 2, 2 * t + z % 2, by omega, by omega, HZ.out, HP.out, HN.out.symm, by go_num, by go_num, by go_num⟩
      case measure => simp [intOf]; omega
    · obtain rfl : k = 32 := by omega
      have HT : Hid (t = Crc.tu x) := et
      clear ez et ht
      go_wp2
      go_ret
      exact ⟨ret_int (by rw [HT.out]), rfl⟩
set_option maxRecDepth 100000 in
set_option maxHeartbeats 400000 in
theorem step_any (r b : Nat) (w : World) (hr : r < 4294967296) (hb : b < 2) :
    Calls Try.prog 107 #[.int .u32 (r : Int), .int .u32 (b : Int)] w fun e w' => e = .returned (.int .u32 ((Crc.rs r b : Nat) : Int)) ∧ w' = w := by
  by_cases h : r < 2147483648
  · have HE : Hid (2 * r + b = Crc.rs r b) := by
      show 2 * r + b = Crc.rs r b
      unfold Crc.rs; rw [if_pos h]; omega
    have hd : decide ((2147483648 : Int) ≤ (r : Int)) = false := by simp; omega
    go_enter Try.func107, Try.ntmps107
    go_wp2
    go_ret
    exact ⟨ret_int (by rw [← HE.out]; omega), rfl⟩
  · have hl : (2 * r + b) % 4294967296 < 4294967296 := by omega
    have HE : Hid (bits .xor .u32 (2 * (r : Int) % 4294967296 + (b : Int)) 517762881 = ((Crc.rs r b : Nat) : Int)) := by
      show bits .xor .u32 (2 * (r : Int) % 4294967296 + (b : Int)) 517762881 = ((Crc.rs r b : Nat) : Int)
      unfold Crc.rs; rw [if_neg h, ← bxor hl (by omega)]
      congr 1; omega
    have hd : decide ((2147483648 : Int) ≤ (r : Int)) = true := by simp; omega
    go_enter Try.func107, Try.ntmps107
    go_wp2
    go_ret
    exact ⟨ret_int (by rw [← HE.out]), rfl⟩
end Go.Proofs.Ytlddogigbodilaa
namespace Go.Proofs.Ytlddogigbodilaa
open Go.RowKit
set_option maxRecDepth 100000 in
set_option maxHeartbeats 400000 in
theorem bit_out (a : Option Addr) (n c i : Nat) (w : World) (hn : n ≤ 140737488351232) (hi : i ≤ 2000000000000000) (h : n ≤ i / 8) :
    Calls Try.prog 106 #[.slice a n c, .int .i64 (i : Int)] w fun e w' => e = .returned (.int .u32 0) ∧ w' = w := by
  have h1 : (n : Int) ≤ (i : Int) / 8 := by omega
  go_enter Try.func106, Try.ntmps106
  go_wp2
  go_ret
  exact ⟨rfl, rfl⟩
set_option maxRecDepth 100000 in
set_option maxHeartbeats 400000 in
theorem bit_in (b off n c i x : Nat) (w : World) (hn : n ≤ 140737488351232) (hi : i ≤ 2000000000000000) (h : i / 8 < n) (hc : w.cell? ⟨b, off + i / 8, none⟩ = some (.int .u8 (x : Int))) (_hx : x < 256) :
    Calls Try.prog 106 #[.slice (some ⟨b, off, none⟩) n c, .int .i64 (i : Int)] w fun e w' => e = .returned (.int .u32 ((x / 2 ^ (i % 8) % 2 : Nat) : Int)) ∧ w' = w := by
  have h1 : ¬ (n : Int) ≤ (i : Int) / 8 := by omega
  go_enter Try.func106, Try.ntmps106
  go_wp2
  go_ret
  exact ⟨rfl, rfl⟩
theorem bit_is (v : Value) (l : List Nat) (i : Nat) (w : World) (h : IsB w v l) (hn : l.length ≤ 140737488351232) (hi : i ≤ 2000000000000000) :
    Calls Try.prog 106 #[v, .int .i64 (i : Int)] w fun e w' => e = .returned (.int .u32 ((Crc.db l i : Nat) : Int)) ∧ w' = w := by
  by_cases hlt : i / 8 < l.length
  · obtain ⟨hb, hm, ⟨rfl, a, c, rfl⟩ | ⟨b, off, c, rfl, _, _, _, hr⟩⟩ := h
    · simp at hlt
    · exact bit_in b off l.length c i _ w hn hi hlt (hr _ hlt) (getD_lt hb _)
  · obtain ⟨a, c, rfl⟩ := h.shape
    have e : Crc.db l i = 0 := by
      unfold Crc.db
      rw [List.getD_eq_getElem?_getD, List.getElem?_eq_none (by omega)]; simp
    rw [e]
    exact bit_out a l.length c i w hn hi (by omega)
theorem tmod2 (x k : Nat) : (((x : Nat) : Int) / 2 ^ k).tmod 2 = ((x / 2 ^ k % 2 : Nat) : Int) := by
  have e : ((x : Nat) : Int) / 2 ^ k = ((x / 2 ^ k : Nat) : Int) := by simp
  rw [e, Int.tmod_eq_emod_of_nonneg (Int.natCast_nonneg _)]; rfl
set_option maxRecDepth 100000 in
set_option maxHeartbeats 400000 in
theorem goOn_is (s : Nat) (v : Value) (l : List Nat) (w : World) (hs : s < 4294967296) (h : IsB w v l) (hn : l.length ≤ 140737488351232) :
    Calls Try.prog 91 #[.int .u32 (s : Int), v] w fun e w' => e = .returned (.int .u32 ((Crc.go s l : Nat) : Int)) ∧ w' = w := by
  have HI := Vt.hd h
  obtain ⟨a, c, rfl⟩ := h.shape
  clear h
  have eN := bnot hs
  have lN := Crc.nt_lt s
  have HS : Hid (∀ k, (Crc.nt s ^^^ Crc.num l) / 2 ^ k % 2 = Crc.inb (Crc.nt s) l k) := fun k => Crc.inb_eq lN HI.out.1 k
  have HF : Hid (∀ r, Crc.tu r ^^^ (Crc.nt s ^^^ Crc.num l) / 2 ^ (8 * l.length + 32) * 4294967296 = Crc.mvN (8 * l.length + 32) ((Crc.nt s ^^^ Crc.num l) * 4294967296) → Crc.nt (Crc.tu r) = Crc.go s l) := fun r hr => Crc.rest_end hs HI.out.1 hr
  go_enter Try.func91, Try.ntmps91
  go_wp2
  go_loop [6, 7] (fun t i => ∃ k r : Nat, k ≤ 8 * l.length + 32 ∧ r < 4294967296 ∧ Crc.tu r ^^^ (Crc.nt s ^^^ Crc.num l) / 2 ^ k * 4294967296 = Crc.mvN k ((Crc.nt s ^^^ Crc.num l) * 4294967296) ∧ i = .int .i64 k ∧ t = .int .u32 (r : Int)) (fun _ i => 8 * l.length + 32 - (intOf i).toNat)
  case atStart => exact ⟨0, 0, by omega, by omega, by rw [show Crc.tu 0 = 0 by decide, Nat.zero_xor, Nat.pow_zero, Nat.div_one]; rfl, rfl, rfl⟩
  case round =>
    obtain ⟨k, r, hk, hr, hR, rfl, rfl⟩ := hrel
    have HR := Vt.hd hR
    clear hR
    have HB := Vt.hd (bit_is _ l k w HI.out hn (by omega))
    by_cases hlt : k < 8 * l.length + 32
    · have lb := Crc.inb_lt (Crc.nt s) l k
      have HN := Vt.hd (Crc.rest_succ hr HR.out)
      rw [HS.out k] at HN
      have HC := Vt.hd (step_any r _ w hr lb)
      by_cases h32 : k < 32
      · have hbx : bits .xor .u32 ((Crc.db l k : Nat) : Int) ((((Crc.nt s : Nat) : Int) / 2 ^ k).tmod 2) = ((Crc.inb (Crc.nt s) l k : Nat) : Int) := by
          unfold Crc.inb
          rw [if_pos h32, ← bxor (by unfold Crc.db; omega) (by omega), tmod2]
        generalize Crc.inb (Crc.nt s) l k = ib at *
        generalize Crc.db l k = dk at *
        generalize Crc.nt s = st at *
        go_wp2_with (first | (go_at_call 106; refine Calls.mono HB.out ?_; rintro e w' ⟨rfl, rfl⟩) | (go_at_call 107; refine Calls.mono HC.out ?_; rintro e w' ⟨rfl, rfl⟩))
        go_round
        case rel => exact ⟨k + 1, _, by omega, Crc.rs_lt _ _, HN.out, by go_num, rfl⟩
        case measure => simp [intOf]; omega
      · have hbx : Crc.db l k = Crc.inb (Crc.nt s) l k := by unfold Crc.inb; rw [if_neg h32]
        rw [hbx] at HB
        clear hbx
        generalize Crc.inb (Crc.nt s) l k = ib at *
        generalize Crc.nt s = st at *
        go_wp2_with (first | (go_at_call 106; refine Calls.mono HB.out ?_; rintro e w' ⟨rfl, rfl⟩) | (go_at_call 107; refine Calls.mono HC.out ?_; rintro e w' ⟨rfl, rfl⟩))
        go_round
        case rel => exact ⟨k + 1, _, by omega, Crc.rs_lt _ _, HN.out, by go_num, rfl⟩
        case measure => simp [intOf]; omega
    · obtain rfl : k = 8 * l.length + 32 := by omega
      have HE := Vt.hd (HF.out r HR.out)
      have HT := Vt.hd (turned_any r w hr)
      have eT := bnot (Crc.tu_lt r)
      clear HR HB
      go_wp2_with (go_at_call 108; refine Calls.mono HT.out ?_; rintro e w' ⟨rfl, rfl⟩)
      go_ret
      exact ⟨ret_int (congrArg _ HE.out), rfl⟩
end Go.Proofs.Ytlddogigbodilaa
