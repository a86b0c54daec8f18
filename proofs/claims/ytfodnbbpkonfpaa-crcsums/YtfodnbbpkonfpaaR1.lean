/-
  THE WALKS OF THE DOCUMENT'S OWN ANSWER (package salvorref1): bit, GoOn come to the same plain function of a sum and bytes.
-/
import Derived.Test.YtfodnbbpkonfpaaR0
namespace Go.Proofs.Ytfodnbbpkonfpaa
open Go.RowKit
set_option maxRecDepth 100000 in
set_option maxHeartbeats 400000 in
theorem bit_out (a : Option Addr) (n c i : Nat) (w : World) (hn : n ≤ 140737488351232) (hi : i ≤ 2000000000000000) (h : n ≤ i / 8) :
    Calls Try.prog 31 #[.slice a n c, .int .i64 (i : Int)] w fun e w' => e = .returned (.int .u32 0) ∧ w' = w := by
  have h1 : (n : Int) ≤ (i : Int) / 8 := by omega
  go_enter Try.func31, Try.ntmps31
  go_wp2
  go_ret
  exact ⟨rfl, rfl⟩
set_option maxRecDepth 100000 in
set_option maxHeartbeats 400000 in
theorem bit_in (b off n c i x : Nat) (w : World) (hn : n ≤ 140737488351232) (hi : i ≤ 2000000000000000) (h : i / 8 < n) (hc : w.cell? ⟨b, off + i / 8, none⟩ = some (.int .u8 (x : Int))) (_hx : x < 256) :
    Calls Try.prog 31 #[.slice (some ⟨b, off, none⟩) n c, .int .i64 (i : Int)] w fun e w' => e = .returned (.int .u32 ((x / 2 ^ (i % 8) % 2 : Nat) : Int)) ∧ w' = w := by
  have h1 : ¬ (n : Int) ≤ (i : Int) / 8 := by omega
  go_enter Try.func31, Try.ntmps31
  go_wp2
  go_ret
  exact ⟨rfl, rfl⟩
theorem bit_is (v : Value) (l : List Nat) (i : Nat) (w : World) (h : IsB w v l) (hn : l.length ≤ 140737488351232) (hi : i ≤ 2000000000000000) :
    Calls Try.prog 31 #[v, .int .i64 (i : Int)] w fun e w' => e = .returned (.int .u32 ((Crc.db l i : Nat) : Int)) ∧ w' = w := by
  by_cases hlt : i / 8 < l.length
  · obtain ⟨hb, hm, ⟨rfl, a, c, rfl⟩ | ⟨b, off, c, rfl, _, _, _, hr⟩⟩ := h
    · simp at hlt
    · exact bit_in b off l.length c i _ w hn hi hlt (hr _ hlt) (getD_lt hb _)
  · obtain ⟨a, c, rfl⟩ := h.shape
    have e : Crc.db l i = 0 := by
      unfold Crc.db
      rw [List.getD_eq_getElem?_getD, List.getElem?_eq_none (by omega)]; simp
    rw [e]
    exact bit_out a l.length c i w hn hi (by omega)
theorem tmod2 (x k : Nat) : (((x : Nat) : Int) / 2 ^ k).tmod 2 = ((x / 2 ^ k % 2 : Nat) : Int) := by
  have e : ((x : Nat) : Int) / 2 ^ k = ((x / 2 ^ k : Nat) : Int) := by simp
  rw [e, Int.tmod_eq_emod_of_nonneg (Int.natCast_nonneg _)]; rfl
set_option maxRecDepth 100000 in
set_option maxHeartbeats 400000 in
theorem goOn_is (s : Nat) (v : Value) (l : List Nat) (w : World) (hs : s < 4294967296) (h : IsB w v l) (hn : l.length ≤ 140737488351232) :
    Calls Try.prog 18 #[.int .u32 (s : Int), v] w fun e w' => e = .returned (.int .u32 ((Crc.go s l : Nat) : Int)) ∧ w' = w := by
  have HI := hd h
  obtain ⟨a, c, rfl⟩ := h.shape
  clear h
  have eN := bnot hs
  have lN := Crc.nt_lt s
  have HS : Hid (∀ k, (Crc.nt s ^^^ Crc.num l) / 2 ^ k % 2 = Crc.inb (Crc.nt s) l k) := fun k => Crc.inb_eq lN HI.out.1 k
  have HF : Hid (∀ r, Crc.tu r ^^^ (Crc.nt s ^^^ Crc.num l) / 2 ^ (8 * l.length + 32) * 4294967296 = Crc.mvN (8 * l.length + 32) ((Crc.nt s ^^^ Crc.num l) * 4294967296) → Crc.nt (Crc.tu r) = Crc.go s l) := fun r hr => Crc.rest_end hs HI.out.1 hr
  go_enter Try.func18, Try.ntmps18
  go_wp2
  go_loop [6, 7] (fun t i => ∃ k r : Nat, k ≤ 8 * l.length + 32 ∧ r < 4294967296 ∧ Crc.tu r ^^^ (Crc.nt s ^^^ Crc.num l) / 2 ^ k * 4294967296 = Crc.mvN k ((Crc.nt s ^^^ Crc.num l) * 4294967296) ∧ i = .int .i64 k ∧ t = .int .u32 (r : Int)) (fun _ i => 8 * l.length + 32 - (intOf i).toNat)
  case atStart => exact ⟨0, 0, by omega, by omega, by rw [show Crc.tu 0 = 0 by decide, Nat.zero_xor, Nat.pow_zero, Nat.div_one]; rfl, rfl, rfl⟩
  case round =>
    obtain ⟨k, r, hk, hr, hR, rfl, rfl⟩ := hrel
    have HR := hd hR
    clear hR
    have HB := hd (bit_is _ l k w HI.out hn (by omega))
    by_cases hlt : k < 8 * l.length + 32
    · have lb := Crc.inb_lt (Crc.nt s) l k
      have HN := hd (Crc.rest_succ hr HR.out)
      rw [HS.out k] at HN
      have HC := hd (step_any r _ w hr lb)
      by_cases h32 : k < 32
      · have hbx : bits .xor .u32 ((Crc.db l k : Nat) : Int) ((((Crc.nt s : Nat) : Int) / 2 ^ k).tmod 2) = ((Crc.inb (Crc.nt s) l k : Nat) : Int) := by
          unfold Crc.inb
          rw [if_pos h32, ← bxor (by unfold Crc.db; omega) (by omega), tmod2]
        generalize Crc.inb (Crc.nt s) l k = ib at *
        generalize Crc.db l k = dk at *
        generalize Crc.nt s = st at *
        go_wp2_with (first | (go_at_call 31; refine Calls.mono HB.out ?_; rintro e w' ⟨rfl, rfl⟩) | (go_at_call 32; refine Calls.mono HC.out ?_; rintro e w' ⟨rfl, rfl⟩))
        go_round
        case rel => exact ⟨k + 1, _, by omega, Crc.rs_lt _ _, HN.out, by go_num, rfl⟩
        case measure => simp [intOf]; omega
      · have hbx : Crc.db l k = Crc.inb (Crc.nt s) l k := by unfold Crc.inb; rw [if_neg h32]
        rw [hbx] at HB
        clear hbx
        generalize Crc.inb (Crc.nt s) l k = ib at *
        generalize Crc.nt s = st at *
        go_wp2_with (first | (go_at_call 31; refine Calls.mono HB.out ?_; rintro e w' ⟨rfl, rfl⟩) | (go_at_call 32; refine Calls.mono HC.out ?_; rintro e w' ⟨rfl, rfl⟩))
        go_round
        case rel => exact ⟨k + 1, _, by omega, Crc.rs_lt _ _, HN.out, by go_num, rfl⟩
        case measure => simp [intOf]; omega
    · obtain rfl : k = 8 * l.length + 32 := by omega
      have HE := hd (HF.out r HR.out)
      have HT := hd (turned_any r w hr)
      have eT := bnot (Crc.tu_lt r)
      clear HR HB
      go_wp2_with (go_at_call 30; refine Calls.mono HT.out ?_; rintro e w' ⟨rfl, rfl⟩)
      go_ret
      exact ⟨ret_int (congrArg _ HE.out), rfl⟩
end Go.Proofs.Ytfodnbbpkonfpaa
