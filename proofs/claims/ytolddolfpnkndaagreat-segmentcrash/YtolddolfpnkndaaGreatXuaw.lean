/-
  THE WALKS OF ByTable, fromBytes, moveEight, ByEight over tables that New has made: they answer what 'Crc.go' says; nothing that was there is turned.
  THE WALKS OF fromBytes, moveEight, ByEight over tables that New has made: they answer what 'Crc.go' says; nothing that was there is turned (the world has drawn, no more).
-/
import Derived.Test.YtolddolfpnkndaaGreatXuav
import Derived.Deep.QuietTactic
import Derived.BigQuiet
namespace Go.Proofs.YtolddolfpnkndaaGreat
open Go.RowKit

theorem Tab.one {w : World} {B : Nat} (h : Tab w B) : w.cell? ⟨B, 1, none⟩ = some (.int .u32 ((Crc.tb 0 1 : Nat) : Int)) := by
  have := h 0 1 (by omega) (by omega)
  simpa using this
theorem bx8 {a b : Nat} (ha : a < 256) (hb : b < 256) : bits .xor .u8 (a : Int) (b : Int) = ((a ^^^ b : Nat) : Int) := u8_xor_nat a b ha hb
set_option maxHeartbeats 400000 in
theorem byTable_nil (B s : Nat) (a : Option Addr) (c : Nat) (w : World) (hs : s < 4294967296) (hT : Tab w B) :
    Calls Tryz.prog 97 #[.pointer (some ⟨B, 0, none⟩), .int .u32 (s : Int), .slice a 0 c] w fun e w' => e = .returned (.int .u32 ((Crc.go s [] : Nat) : Int)) ∧ w' = w := by
  have h1 := hT.one
  have HT : Hid (Tab w B) := hT
  clear hT
  go_enter Tryz.func97, Tryz.ntmps97
  go_wp2_with (go_at_call 95; refine (made_yes _ _ h1).mono ?_; rintro e w' ⟨rfl, rfl⟩)
  go_loop [7, 20] (fun t i => i = .int .i64 0 ∧ t = .int .u32 ((Crc.nt s : Nat) : Int)) (fun _ _ => 0)
  case atStart => exact ⟨rfl, by rw [bnot hs]⟩
  case round =>
    obtain ⟨rfl, rfl⟩ := hrel
    go_wp2
    go_ret
    exact ⟨ret_int (by rw [bnot (Crc.nt_lt s), Crc.go, Crc.fe_nil]), rfl⟩
set_option maxRecDepth 100000 in
set_option maxHeartbeats 400000 in
theorem byTable_row (B s : Nat) (b off c : Nat) (l : List Nat) (w : World) (hs : s < 4294967296) (hT : Tab w B) (hb : Crc.Byt l) (hm : l.length ≤ maxLen) (hr : Row w b off l) :
    Calls Tryz.prog 97 #[.pointer (some ⟨B, 0, none⟩), .int .u32 (s : Int), .slice (some ⟨b, off, none⟩) l.length c] w fun e w' => e = .returned (.int .u32 ((Crc.go s l : Nat) : Int)) ∧ w' = w := by
  unfold maxLen at hm
  have h1 := hT.one
  have HT : Hid (Tab w B) := hT
  clear hT
  go_enter Tryz.func97, Tryz.ntmps97
  go_wp2_with (go_at_call 95; refine (made_yes _ _ h1).mono ?_; rintro e w' ⟨rfl, rfl⟩)
  go_loop [7, 20] (fun t i => ∃ k : Nat, k ≤ l.length ∧ i = .int .i64 k ∧ t = .int .u32 ((Crc.fe (Crc.nt s) (l.take k) : Nat) : Int)) (fun _ i => l.length - (intOf i).toNat)
  case atStart => exact ⟨0, Nat.zero_le _, rfl, by rw [bnot hs, List.take_zero, Crc.fe_nil]⟩
  case round =>
    obtain ⟨k, hk, rfl, rfl⟩ := hrel
    have hst := Crc.fe_lt (Crc.nt_lt s) (byt_take hb k)
    by_cases hlt : k < l.length
    · have hc := hr k hlt
      have hx := getD_lt hb k
      have HT2 : Hid (l.take (k + 1) = l.take k ++ [l.getD k 0]) := take_succ_getD hlt
      generalize l.getD k 0 = x at hc hx HT2
      generalize hS : Crc.fe (Crc.nt s) (l.take k) = S at hst
      have HS : Hid (Crc.fe (Crc.nt s) (l.take k) = S) := hS
      clear hS
      have hj : S % 256 ^^^ x < 256 := Crc.xor_lt8 (by omega) hx
      have ej := bx8 (a := S % 256) (b := x) (by omega) hx
      have hcj := HT.out 0 _ (by omega) hj
      have htl := Crc.tb_lt 0 hj
      have HE : Hid (Crc.mvN 8 (S ^^^ x) = Crc.tb 0 (S % 256 ^^^ x) ^^^ S / 256) := Crc.step_tb S x
      have ec : ((S % 256 : Nat) : Int) = (S : Int) % 256 := by omega
      rw [ec] at ej
      rw [Nat.zero_mul, Nat.zero_add] at hcj
      clear ec
      generalize S % 256 ^^^ x = j at *
      generalize Crc.tb 0 j = t at *
      go_wp2
      go_round
      case rel => exact ⟨k + 1, by omega, by go_num, by rw [HT2.out, fe_snoc, HS.out, HE.out, ← bxor htl (by omega)]; rfl⟩
      case measure => simp [intOf]; omega
    · have e : k = l.length := by omega
      subst e
      rw [List.take_length] at hst
      go_wp2
      go_ret
      exact ⟨ret_int (by rw [bnot hst, Crc.go]), rfl⟩
end Go.Proofs.YtolddolfpnkndaaGreat
namespace Go.Proofs.YtolddolfpnkndaaGreat
open Go.RowKit

theorem le4_lt {a b c d : Nat} (ha : a < 256) (hb : b < 256) (hc : c < 256) (hd : d < 256) : Crc.le4 a b c d < 4294967296 := by
  rw [Crc.num4 ha hb hc hd]; exact Crc.num4_lt ha hb hc hd
theorem le4_bits {a b c d : Nat} (ha : a < 256) (hb : b < 256) (hc : c < 256) (hd : d < 256) :
    bits .or .u32 (bits .or .u32 (bits .or .u32 (a : Int) ((b : Int) * 256)) ((c : Int) * 65536)) ((d : Int) * 16777216) = ((Crc.le4 a b c d : Nat) : Int) := by
  rw [show (b : Int) * 256 = ((b * 256 : Nat) : Int) by omega, show (c : Int) * 65536 = ((c * 65536 : Nat) : Int) by omega, show (d : Int) * 16777216 = ((d * 16777216 : Nat) : Int) by omega]
  rw [u32_or_nat _ _ (by omega) (by omega), u32_or_nat _ _ (Nat.or_lt_two_pow (n := 32) (by omega) (by omega)) (by omega), u32_or_nat _ _ (Nat.or_lt_two_pow (n := 32) (Nat.or_lt_two_pow (n := 32) (by omega) (by omega)) (by omega)) (by omega)]
  rfl
set_option maxRecDepth 100000 in
set_option maxHeartbeats 400000 in
theorem fromBytes_any (b off c p q r t : Nat) (w : World) (hp : p < 256) (hq : q < 256) (hr : r < 256) (ht : t < 256)
    (c0 : w.cell? ⟨b, off, none⟩ = some (.int .u8 (p : Int))) (c1 : w.cell? ⟨b, off + 1, none⟩ = some (.int .u8 (q : Int))) (c2 : w.cell? ⟨b, off + 2, none⟩ = some (.int .u8 (r : Int))) (c3 : w.cell? ⟨b, off + 3, none⟩ = some (.int .u8 (t : Int))) :
    Calls Tryz.prog 117 #[.slice (some ⟨b, off, none⟩) 4 c] w fun e w' => e = .returned (.int .u32 ((Crc.le4 p q r t : Nat) : Int)) ∧ ∃ n, w' = w.drewN n := by
  go_enter Tryz.func117, Tryz.ntmps117
  go_wp2
  go_quiet (fail)
  go_wp2
  go_ret
  exact ⟨ret_int (le4_bits hp hq hr ht), nq, rfl⟩
theorem xor8_bits {a b c d e f g h : Nat} (ha : a < 4294967296) (hb : b < 4294967296) (hc : c < 4294967296) (hd : d < 4294967296) (he : e < 4294967296) (hf : f < 4294967296) (hg : g < 4294967296) (hh : h < 4294967296) :
    bits .xor .u32 (bits .xor .u32 (bits .xor .u32 (bits .xor .u32 (bits .xor .u32 (bits .xor .u32 (bits .xor .u32 (a : Int) (b : Int)) (c : Int)) (d : Int)) (e : Int)) (f : Int)) (g : Int)) (h : Int) = (((a ^^^ (b ^^^ (c ^^^ d))) ^^^ (e ^^^ (f ^^^ (g ^^^ h))) : Nat) : Int) := by
  rw [bxor ha hb]
  have l1 := Crc.xor_lt ha hb
  rw [bxor l1 hc]
  have l2 := Crc.xor_lt l1 hc
  rw [bxor l2 hd]
  have l3 := Crc.xor_lt l2 hd
  rw [bxor l3 he]
  have l4 := Crc.xor_lt l3 he
  rw [bxor l4 hf]
  have l5 := Crc.xor_lt l4 hf
  rw [bxor l5 hg]
  have l6 := Crc.xor_lt l5 hg
  rw [bxor l6 hh]
  simp only [Nat.xor_assoc]
set_option maxRecDepth 100000 in
set_option maxHeartbeats 1000000 in
theorem moveEight_any (B s b off c : Nat) (p0 p1 p2 p3 p4 p5 p6 p7 : Nat) (w : World) (hs : s < 4294967296) (hT : Tab w B) (hc8 : 8 ≤ c) (hcm : c ≤ maxLen)
    (h0 : p0 < 256) (h1 : p1 < 256) (h2 : p2 < 256) (h3 : p3 < 256) (h4 : p4 < 256) (h5 : p5 < 256) (h6 : p6 < 256) (h7 : p7 < 256)
    (c0 : w.cell? ⟨b, off, none⟩ = some (.int .u8 (p0 : Int))) (c1 : w.cell? ⟨b, off + 1, none⟩ = some (.int .u8 (p1 : Int))) (c2 : w.cell? ⟨b, off + 2, none⟩ = some (.int .u8 (p2 : Int))) (c3 : w.cell? ⟨b, off + 3, none⟩ = some (.int .u8 (p3 : Int)))
    (c4 : w.cell? ⟨b, off + 4, none⟩ = some (.int .u8 (p4 : Int))) (c5 : w.cell? ⟨b, off + 4 + 1, none⟩ = some (.int .u8 (p5 : Int))) (c6 : w.cell? ⟨b, off + 4 + 2, none⟩ = some (.int .u8 (p6 : Int))) (c7 : w.cell? ⟨b, off + 4 + 3, none⟩ = some (.int .u8 (p7 : Int))) :
    Calls Tryz.prog 96 #[.pointer (some ⟨B, 0, none⟩), .int .u32 (s : Int), .slice (some ⟨b, off, none⟩) 8 c] w fun e w' => e = .returned (.int .u32 ((Crc.fe s [p0, p1, p2, p3, p4, p5, p6, p7] : Nat) : Int)) ∧ ∃ n, w' = w.drewN n := by
  unfold maxLen at hcm
  have ly := le4_lt h0 h1 h2 h3
  have lz := le4_lt h4 h5 h6 h7
  have lx := Crc.xor_lt hs ly
  have HE := Crc.eight_tb hs h0 h1 h2 h3 h4 h5 h6 h7 rfl rfl
  have C1 : Hid (∀ u : World, u.cell? ⟨b, off, none⟩ = some (.int .u8 (p0 : Int)) → u.cell? ⟨b, off + 1, none⟩ = some (.int .u8 (p1 : Int)) → u.cell? ⟨b, off + 2, none⟩ = some (.int .u8 (p2 : Int)) → u.cell? ⟨b, off + 3, none⟩ = some (.int .u8 (p3 : Int)) → _) := fun u k0 k1 k2 k3 => fromBytes_any b off c p0 p1 p2 p3 u h0 h1 h2 h3 k0 k1 k2 k3
  have C2 : Hid (∀ u : World, u.cell? ⟨b, off + 4, none⟩ = some (.int .u8 (p4 : Int)) → u.cell? ⟨b, off + 4 + 1, none⟩ = some (.int .u8 (p5 : Int)) → u.cell? ⟨b, off + 4 + 2, none⟩ = some (.int .u8 (p6 : Int)) → u.cell? ⟨b, off + 4 + 3, none⟩ = some (.int .u8 (p7 : Int)) → _) := fun u k0 k1 k2 k3 => fromBytes_any b (off + 4) (c - 4) p4 p5 p6 p7 u h4 h5 h6 h7 k0 k1 k2 k3
  generalize Crc.le4 p0 p1 p2 p3 = y at *
  generalize Crc.le4 p4 p5 p6 p7 = z at *
  have ex := bxor hs ly
  generalize s ^^^ y = x at *
  obtain ⟨a0, g0⟩ : ∃ a, a = x % 256 := ⟨_, rfl⟩
  obtain ⟨a1, g1⟩ : ∃ a, a = x / 256 % 256 := ⟨_, rfl⟩
  obtain ⟨a2, g2⟩ : ∃ a, a = x / 65536 % 256 := ⟨_, rfl⟩
  obtain ⟨a3, g3⟩ : ∃ a, a = x / 16777216 % 256 := ⟨_, rfl⟩
  obtain ⟨a4, g4⟩ : ∃ a, a = z % 256 := ⟨_, rfl⟩
  obtain ⟨a5, g5⟩ : ∃ a, a = z / 256 % 256 := ⟨_, rfl⟩
  obtain ⟨a6, g6⟩ : ∃ a, a = z / 65536 % 256 := ⟨_, rfl⟩
  obtain ⟨a7, g7⟩ : ∃ a, a = z / 16777216 % 256 := ⟨_, rfl⟩
  have e0 : (x : Int) % 256 = (a0 : Int) := by omega
  have e1 : (x : Int) / 256 % 256 = (a1 : Int) := by omega
  have e2 : (x : Int) / 65536 % 256 = (a2 : Int) := by omega
  have e3 : (x : Int) / 16777216 = (a3 : Int) := by omega
  have e4 : (z : Int) % 256 = (a4 : Int) := by omega
  have e5 : (z : Int) / 256 % 256 = (a5 : Int) := by omega
  have e6 : (z : Int) / 65536 % 256 = (a6 : Int) := by omega
  have e7 : (z : Int) / 16777216 = (a7 : Int) := by omega
  have l0 : a0 < 256 := by omega
  have l1 : a1 < 256 := by omega
  have l2 : a2 < 256 := by omega
  have l3 : a3 < 256 := by omega
  have l4 : a4 < 256 := by omega
  have l5 : a5 < 256 := by omega
  have l6 : a6 < 256 := by omega
  have l7 : a7 < 256 := by omega
  rw [← g0, ← g1, ← g2, ← g3, ← g4, ← g5, ← g6, ← g7] at HE
  have d0 := hT 7 a0 (by omega) l0
  have d1 := hT 6 a1 (by omega) l1
  have d2 := hT 5 a2 (by omega) l2
  have d3 := hT 4 a3 (by omega) l3
  have d4 := hT 3 a4 (by omega) l4
  have d5 := hT 2 a5 (by omega) l5
  have d6 := hT 1 a6 (by omega) l6
  have d7 := hT 0 a7 (by omega) l7
  have HF : Hid (bits .xor .u32 _ _ = _) := xor8_bits (Crc.tb_lt 7 l0) (Crc.tb_lt 6 l1) (Crc.tb_lt 5 l2) (Crc.tb_lt 4 l3) (Crc.tb_lt 3 l4) (Crc.tb_lt 2 l5) (Crc.tb_lt 1 l6) (Crc.tb_lt 0 l7)
  have HE' : Hid _ := HE
  clear HE g0 g1 g2 g3 g4 g5 g6 g7 hT h0 h1 h2 h3 h4 h5 h6 h7
  simp only [Nat.reduceMul, Nat.zero_add] at d0 d1 d2 d3 d4 d5 d6 d7
  go_enter Tryz.func96, Tryz.ntmps96
  go_wp2_with fail
  refine (C1.out _ c0 c1 c2 c3).mono ?_
  rintro e w' ⟨rfl, n, rfl⟩
  go_wp2_with fail
  refine (C2.out (w.drewN n) c4 c5 c6 c7).mono ?_
  rintro e w' ⟨rfl, m, rfl⟩
  go_wp2
  dsimp only [List.append]
  go_quiet (fail)
  go_wp2
  go_ret
  exact ⟨ret_int (HF.out.trans (congrArg _ HE'.out.symm)), n + m + nq, by simp only [World.drewN_drewN]⟩
end Go.Proofs.YtolddolfpnkndaaGreat
