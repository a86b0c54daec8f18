/-
  THE WALKS OF ByTable, fromBytes, moveEight, ByEight over tables that New has made: they answer what 'Crc.go' says; nothing that was there is turned.
  THE WALKS OF fromBytes, moveEight, ByEight over tables that New has made: they answer what 'Crc.go' says; nothing that was there is turned (the world has drawn, no more).
  THE WALK OF ByEight over tables that New has made: it answers what 'Crc.go' says; nothing that was there is turned (the world has drawn, no more).
  THE WALK OF New: it lays one new block, whose cells are the eight tables; nothing that was there is turned.
-/
import Derived.Test.YtnjhbidialngmaaXhai
import Derived.Deep.QuietTactic
import Derived.BigQuiet
import Derived.Deep.RegionWith
namespace Go.Proofs.Ytnjhbidialngmaa
open Go.RowKit

theorem Tab.one {w : World} {B : Nat} (h : Tab w B) : w.cell? ⟨B, 1, none⟩ = some (.int .u32 ((Crc.tb 0 1 : Nat) : Int)) := by
  have := h 0 1 (by omega) (by omega)
  simpa using this
theorem bx8 {a b : Nat} (ha : a < 256) (hb : b < 256) : bits .xor .u8 (a : Int) (b : Int) = ((a ^^^ b : Nat) : Int) := u8_xor_nat a b ha hb
set_option maxHeartbeats 400000 in
theorem byTable_nil (B s : Nat) (a : Option Addr) (c : Nat) (w : World) (hs : s < 4294967296) (hT : Tab w B) :
    Calls Try.prog 77 #[.pointer (some ⟨B, 0, none⟩), .int .u32 (s : Int), .slice a 0 c] w fun e w' => e = .returned (.int .u32 ((Crc.go s [] : Nat) : Int)) ∧ w' = w := by
  have h1 := hT.one
  have HT : Hid (Tab w B) := hT
  clear hT
  go_enter Try.func77, Try.ntmps77
  go_wp2_with (go_at_call 75; refine (made_yes _ _ h1).mono ?_; rintro e w' ⟨rfl, rfl⟩)
  go_loop [7, 20] (fun t i => i = .int .i64 0 ∧ t = .int .u32 ((Crc.nt s : Nat) : Int)) (fun _ _ => 0)
  case atStart => exact ⟨rfl, by rw [bnot hs]⟩
  case round =>
    obtain ⟨rfl, rfl⟩ := hrel
    go_wp2
    go_ret
    exact ⟨ret_int (by rw [bnot (Crc.nt_lt s), Crc.go, Crc.fe_nil]), rfl⟩
set_option maxRecDepth 100000 in
set_option maxHeartbeats 400000 in
theorem byTable_row (B s : Nat) (b off c : Nat) (l : List Nat) (w : World) (hs : s < 4294967296) (hT : Tab w B) (hb : Crc.Byt l) (hm : l.length ≤ maxLen) (hr : Row w b off l) :
    Calls Try.prog 77 #[.pointer (some ⟨B, 0, none⟩), .int .u32 (s : Int), .slice (some ⟨b, off, none⟩) l.length c] w fun e w' => e = .returned (.int .u32 ((Crc.go s l : Nat) : Int)) ∧ w' = w := by
  unfold maxLen at hm
  have h1 := hT.one
  have HT : Hid (Tab w B) := hT
  clear hT
  go_enter Try.func77, Try.ntmps77
  go_wp2_with (go_at_call 75; refine (made_yes _ _ h1).mono ?_; rintro e w' ⟨rfl, rfl⟩)
  go_loop [7, 20] (fun t i => ∃ k : Nat, k ≤ l.length ∧ i = .int .i64 k ∧ t = .int .u32 ((Crc.fe (Crc.nt s) (l.take k) : Nat) : Int)) (fun _ i => l.length - (intOf i).toNat)
  case atStart => exact ⟨0, Nat.zero_le _, rfl, by rw [bnot hs, List.take_zero, Crc.fe_nil]⟩
  case round =>
    obtain ⟨k, hk, rfl, rfl⟩ := hrel
    have hst := Crc.fe_lt (Crc.nt_lt s) (byt_take hb k)
    by_cases hlt : k < l.length
    · have hc := hr k hlt
      have hx := getD_lt hb k
      have HT2 : Hid (l.take (k + 1) = l.take k ++ [l.getD k 0]) := take_succ_getD hlt
      generalize l.getD k 0 = x at hc hx HT2
      generalize hS : Crc.fe (Crc.nt s) (l.take k) = S at hst
      have HS : Hid (Crc.fe (Crc.nt s) (l.take k) = S) := hS
      clear hS
      have hj : S % 256 ^^^ x < 256 := Crc.xor_lt8 (by omega) hx
      have ej := bx8 (a := S % 256) (b := x) (by omega) hx
      have hcj := HT.out 0 _ (by omega) hj
      have htl := Crc.tb_lt 0 hj
      have HE : Hid (Crc.mvN 8 (S ^^^ x) = Crc.tb 0 (S % 256 ^^^ x) ^^^ S / 256) := Crc.step_tb S x
      have ec : ((S % 256 : Nat) : Int) = (S : Int) % 256 := by omega
      rw [ec] at ej
      rw [Nat.zero_mul, Nat.zero_add] at hcj
      clear ec
      generalize S % 256 ^^^ x = j at *
      generalize Crc.tb 0 j = t at *
      go_wp2
      go_round
      case rel => exact ⟨k + 1, by omega, by go_num, by rw [HT2.out, fe_snoc, HS.out, HE.out, ← bxor htl (by omega)]; rfl⟩
      case measure => simp [intOf]; omega
    · have e : k = l.length := by omega
      subst e
      rw [List.take_length] at hst
      go_wp2
      go_ret
      exact ⟨ret_int (by rw [bnot hst, Crc.go]), rfl⟩
end Go.Proofs.Ytnjhbidialngmaa
namespace Go.Proofs.Ytnjhbidialngmaa
open Go.RowKit

theorem le4_lt {a b c d : Nat} (ha : a < 256) (hb : b < 256) (hc : c < 256) (hd : d < 256) : Crc.le4 a b c d < 4294967296 := by
  rw [Crc.num4 ha hb hc hd]; exact Crc.num4_lt ha hb hc hd
theorem le4_bits {a b c d : Nat} (ha : a < 256) (hb : b < 256) (hc : c < 256) (hd : d < 256) :
    bits .or .u32 (bits .or .u32 (bits .or .u32 (a : Int) ((b : Int) * 256)) ((c : Int) * 65536)) ((d : Int) * 16777216) = ((Crc.le4 a b c d : Nat) : Int) := by
  rw [show (b : Int) * 256 = ((b * 256 : Nat) : Int) by omega, show (c : Int) * 65536 = ((c * 65536 : Nat) : Int) by omega, show (d : Int) * 16777216 = ((d * 16777216 : Nat) : Int) by omega]
  rw [u32_or_nat _ _ (by omega) (by omega), u32_or_nat _ _ (Nat.or_lt_two_pow (n := 32) (by omega) (by omega)) (by omega), u32_or_nat _ _ (Nat.or_lt_two_pow (n := 32) (Nat.or_lt_two_pow (n := 32) (by omega) (by omega)) (by omega)) (by omega)]
  rfl
set_option maxRecDepth 100000 in
set_option maxHeartbeats 400000 in
theorem fromBytes_any (b off c p q r t : Nat) (w : World) (hp : p < 256) (hq : q < 256) (hr : r < 256) (ht : t < 256)
    (c0 : w.cell? ⟨b, off, none⟩ = some (.int .u8 (p : Int))) (c1 : w.cell? ⟨b, off + 1, none⟩ = some (.int .u8 (q : Int))) (c2 : w.cell? ⟨b, off + 2, none⟩ = some (.int .u8 (r : Int))) (c3 : w.cell? ⟨b, off + 3, none⟩ = some (.int .u8 (t : Int))) :
    Calls Try.prog 97 #[.slice (some ⟨b, off, none⟩) 4 c] w fun e w' => e = .returned (.int .u32 ((Crc.le4 p q r t : Nat) : Int)) ∧ ∃ n, w' = w.drewN n := by
  go_enter Try.func97, Try.ntmps97
  go_wp2
  go_quiet (fail)
  go_wp2
  go_ret
  exact ⟨ret_int (le4_bits hp hq hr ht), nq, rfl⟩
theorem xor8_bits {a b c d e f g h : Nat} (ha : a < 4294967296) (hb : b < 4294967296) (hc : c < 4294967296) (hd : d < 4294967296) (he : e < 4294967296) (hf : f < 4294967296) (hg : g < 4294967296) (hh : h < 4294967296) :
    bits .xor .u32 (bits .xor .u32 (bits .xor .u32 (bits .xor .u32 (bits .xor .u32 (bits .xor .u32 (bits .xor .u32 (a : Int) (b : Int)) (c : Int)) (d : Int)) (e : Int)) (f : Int)) (g : Int)) (h : Int) = (((a ^^^ (b ^^^ (c ^^^ d))) ^^^ (e ^^^ (f ^^^ (g ^^^ h))) : Nat) : Int) := by
  rw [bxor ha hb]
  have l1 := Crc.xor_lt ha hb
  rw [bxor l1 hc]
  have l2 := Crc.xor_lt l1 hc
  rw [bxor l2 hd]
  have l3 := Crc.xor_lt l2 hd
  rw [bxor l3 he]
  have l4 := Crc.xor_lt l3 he
  rw [bxor l4 hf]
  have l5 := Crc.xor_lt l4 hf
  rw [bxor l5 hg]
  have l6 := Crc.xor_lt l5 hg
  rw [bxor l6 hh]
  simp only [Nat.xor_assoc]
set_option maxRecDepth 100000 in
set_option maxHeartbeats 1000000 in
theorem moveEight_any (B s b off c : Nat) (p0 p1 p2 p3 p4 p5 p6 p7 : Nat) (w : World) (hs : s < 4294967296) (hT : Tab w B) (hc8 : 8 ≤ c) (hcm : c ≤ maxLen)
    (h0 : p0 < 256) (h1 : p1 < 256) (h2 : p2 < 256) (h3 : p3 < 256) (h4 : p4 < 256) (h5 : p5 < 256) (h6 : p6 < 256) (h7 : p7 < 256)
    (c0 : w.cell? ⟨b, off, none⟩ = some (.int .u8 (p0 : Int))) (c1 : w.cell? ⟨b, off + 1, none⟩ = some (.int .u8 (p1 : Int))) (c2 : w.cell? ⟨b, off + 2, none⟩ = some (.int .u8 (p2 : Int))) (c3 : w.cell? ⟨b, off + 3, none⟩ = some (.int .u8 (p3 : Int)))
    (c4 : w.cell? ⟨b, off + 4, none⟩ = some (.int .u8 (p4 : Int))) (c5 : w.cell? ⟨b, off + 4 + 1, none⟩ = some (.int .u8 (p5 : Int))) (c6 : w.cell? ⟨b, off + 4 + 2, none⟩ = some (.int .u8 (p6 : Int))) (c7 : w.cell? ⟨b, off + 4 + 3, none⟩ = some (.int .u8 (p7 : Int))) :
    Calls Try.prog 76 #[.pointer (some ⟨B, 0, none⟩), .int .u32 (s : Int), .slice (some ⟨b, off, none⟩) 8 c] w fun e w' => e = .returned (.int .u32 ((Crc.fe s [p0, p1, p2, p3, p4, p5, p6, p7] : Nat) : Int)) ∧ ∃ n, w' = w.drewN n := by
  unfold maxLen at hcm
  have ly := le4_lt h0 h1 h2 h3
  have lz := le4_lt h4 h5 h6 h7
  have lx := Crc.xor_lt hs ly
  have HE := Crc.eight_tb hs h0 h1 h2 h3 h4 h5 h6 h7 rfl rfl
  have C1 : Hid (∀ u : World, u.cell? ⟨b, off, none⟩ = some (.int .u8 (p0 : Int)) → u.cell? ⟨b, off + 1, none⟩ = some (.int .u8 (p1 : Int)) → u.cell? ⟨b, off + 2, none⟩ = some (.int .u8 (p2 : Int)) → u.cell? ⟨b, off + 3, none⟩ = some (.int .u8 (p3 : Int)) → _) := fun u k0 k1 k2 k3 => fromBytes_any b off c p0 p1 p2 p3 u h0 h1 h2 h3 k0 k1 k2 k3
  have C2 : Hid (∀ u : World, u.cell? ⟨b, off + 4, none⟩ = some (.int .u8 (p4 : Int)) → u.cell? ⟨b, off + 4 + 1, none⟩ = some (.int .u8 (p5 : Int)) → u.cell? ⟨b, off + 4 + 2, none⟩ = some (.int .u8 (p6 : Int)) → u.cell? ⟨b, off + 4 + 3, none⟩ = some (.int .u8 (p7 : Int)) → _) := fun u k0 k1 k2 k3 => fromBytes_any b (off + 4) (c - 4) p4 p5 p6 p7 u h4 h5 h6 h7 k0 k1 k2 k3
  generalize Crc.le4 p0 p1 p2 p3 = y at *
  generalize Crc.le4 p4 p5 p6 p7 = z at *
  have ex := bxor hs ly
  generalize s ^^^ y = x at *
  obtain ⟨a0, g0⟩ : ∃ a, a = x % 256 := ⟨_, rfl⟩
  obtain ⟨a1, g1⟩ : ∃ a, a = x / 256 % 256 := ⟨_, rfl⟩
  obtain ⟨a2, g2⟩ : ∃ a, a = x / 65536 % 256 := ⟨_, rfl⟩
  obtain ⟨a3, g3⟩ : ∃ a, a = x / 16777216 % 256 := ⟨_, rfl⟩
  obtain ⟨a4, g4⟩ : ∃ a, a = z % 256 := ⟨_, rfl⟩
  obtain ⟨a5, g5⟩ : ∃ a, a = z / 256 % 256 := ⟨_, rfl⟩
  obtain ⟨a6, g6⟩ : ∃ a, a = z / 65536 % 256 := ⟨_, rfl⟩
  obtain ⟨a7, g7⟩ : ∃ a, a = z / 16777216 % 256 := ⟨_, rfl⟩
  have e0 : (x : Int) % 256 = (a0 : Int) := by omega
  have e1 : (x : Int) / 256 % 256 = (a1 : Int) := by omega
  have e2 : (x : Int) / 65536 % 256 = (a2 : Int) := by omega
  have e3 : (x : Int) / 16777216 = (a3 : Int) := by omega
  have e4 : (z : Int) % 256 = (a4 : Int) := by omega
  have e5 : (z : Int) / 256 % 256 = (a5 : Int) := by omega
  have e6 : (z : Int) / 65536 % 256 = (a6 : Int) := by omega
  have e7 : (z : Int) / 16777216 = (a7 : Int) := by omega
  have l0 : a0 < 256 := by omega
  have l1 : a1 < 256 := by omega
  have l2 : a2 < 256 := by omega
  have l3 : a3 < 256 := by omega
  have l4 : a4 < 256 := by omega
  have l5 : a5 < 256 := by omega
  have l6 : a6 < 256 := by omega
  have l7 : a7 < 256 := by omega
  rw [← g0, ← g1, ← g2, ← g3, ← g4, ← g5, ← g6, ← g7] at HE
  have d0 := hT 7 a0 (by omega) l0
  have d1 := hT 6 a1 (by omega) l1
  have d2 := hT 5 a2 (by omega) l2
  have d3 := hT 4 a3 (by omega) l3
  have d4 := hT 3 a4 (by omega) l4
  have d5 := hT 2 a5 (by omega) l5
  have d6 := hT 1 a6 (by omega) l6
  have d7 := hT 0 a7 (by omega) l7
  have HF : Hid (bits .xor .u32 _ _ = _) := xor8_bits (Crc.tb_lt 7 l0) (Crc.tb_lt 6 l1) (Crc.tb_lt 5 l2) (Crc.tb_lt 4 l3) (Crc.tb_lt 3 l4) (Crc.tb_lt 2 l5) (Crc.tb_lt 1 l6) (Crc.tb_lt 0 l7)
  have HE' : Hid _ := HE
  clear HE g0 g1 g2 g3 g4 g5 g6 g7 hT h0 h1 h2 h3 h4 h5 h6 h7
  simp only [Nat.reduceMul, Nat.zero_add] at d0 d1 d2 d3 d4 d5 d6 d7
  go_enter Try.func76, Try.ntmps76
  go_wp2_with fail
  refine (C1.out _ c0 c1 c2 c3).mono ?_
  rintro e w' ⟨rfl, n, rfl⟩
  go_wp2_with fail
  refine (C2.out (w.drewN n) c4 c5 c6 c7).mono ?_
  rintro e w' ⟨rfl, m, rfl⟩
  go_wp2
  dsimp only [List.append]
  go_quiet (fail)
  go_wp2
  go_ret
  exact ⟨ret_int (HF.out.trans (congrArg _ HE'.out.symm)), n + m + nq, by simp only [World.drewN_drewN]⟩
end Go.Proofs.Ytnjhbidialngmaa
namespace Go.Proofs.Ytnjhbidialngmaa
open Go.RowKit

def sliceLen : Value → Nat
  | .slice _ n _ => n
  | _ => 0
theorem slice_eq {b o p n m c d : Nat} (h1 : o = p) (h2 : n = m) (h3 : c = d) : Value.slice (some ⟨b, o, none⟩) n c = .slice (some ⟨b, p, none⟩) m d := by rw [h1, h2, h3]
theorem getD_drop (l : List Nat) (m k : Nat) : (l.drop m).getD k 0 = l.getD (m + k) 0 := by
  simp [List.getD_eq_getElem?_getD, List.getElem?_drop]
theorem row_drop {w : World} {b off : Nat} {l : List Nat} (h : Row w b off l) (m : Nat) : Row w b (off + m) (l.drop m) := by
  intro k hk
  rw [List.length_drop] at hk
  rw [getD_drop, Nat.add_assoc]
  exact h (m + k) (by omega)
theorem row_take {w : World} {b off : Nat} {l : List Nat} (h : Row w b off l) (m : Nat) : Row w b off (l.take m) := by
  intro k hk
  rw [List.length_take] at hk
  have e : (l.take m).getD k 0 = l.getD k 0 := by simp [List.getD_eq_getElem?_getD, show k < m by omega]
  rw [e]
  exact h k (by omega)
theorem take_eight (l : List Nat) (m : Nat) (h : m + 8 ≤ l.length) : l.take (m + 8) = l.take m ++ [l.getD m 0, l.getD (m + 1) 0, l.getD (m + 2) 0, l.getD (m + 3) 0, l.getD (m + 4) 0, l.getD (m + 5) 0, l.getD (m + 6) 0, l.getD (m + 7) 0] := by
  rw [take_succ_getD (by omega : m + 7 < l.length), take_succ_getD (by omega : m + 6 < l.length), take_succ_getD (by omega : m + 5 < l.length), take_succ_getD (by omega : m + 4 < l.length), take_succ_getD (by omega : m + 3 < l.length), take_succ_getD (by omega : m + 2 < l.length), take_succ_getD (by omega : m + 1 < l.length), take_succ_getD (by omega : m < l.length)]
  simp
theorem Tab.drewN {w : World} {B : Nat} (h : Tab w B) (n : Nat) : Tab (w.drewN n) B := fun k b hk hb => h k b hk hb
theorem Row.drewN {w : World} {b off : Nat} {l : List Nat} (h : Row w b off l) (n : Nat) : Row (w.drewN n) b off l := fun k hk => h k hk
set_option maxRecDepth 100000 in
set_option maxHeartbeats 400000 in
theorem byEight_nil (B s : Nat) (a : Option Addr) (c : Nat) (w : World) (hs : s < 4294967296) (hT : Tab w B) :
    Calls Try.prog 60 #[.pointer (some ⟨B, 0, none⟩), .int .u32 (s : Int), .slice a 0 c] w fun e w' => e = .returned (.int .u32 ((Crc.go s [] : Nat) : Int)) ∧ ∃ n, w' = w.drewN n := by
  have h1 := hT.one
  have HT : Hid (Tab w B) := hT
  clear hT
  go_enter Try.func60, Try.ntmps60
  go_wp2_with (go_at_call 75; refine (made_yes _ _ h1).mono ?_; rintro e w' ⟨rfl, rfl⟩)
  go_loop [2, 7] (fun d t => d = .slice a 0 c ∧ t = .int .u32 ((Crc.nt s : Nat) : Int)) (fun _ _ => 0)
  case atStart => exact ⟨rfl, by rw [bnot hs]⟩
  case round =>
    obtain ⟨rfl, rfl⟩ := hrel
    go_wp2_with fail
    rw [bnot (Crc.nt_lt s), Crc.nt_nt hs]
    refine (byTable_nil B s a c _ hs HT.out).mono ?_
    rintro e w' ⟨rfl, rfl⟩
    go_wp2
    go_ret
    exact ⟨rfl, 0, rfl⟩
set_option maxRecDepth 100000 in
set_option maxHeartbeats 400000 in
theorem byEight_row (B s : Nat) (b off c : Nat) (l : List Nat) (w : World) (hs : s < 4294967296) (hT : Tab w B) (hb : Crc.Byt l) (hm : l.length ≤ c) (hcm : c ≤ maxLen) (hr : Row w b off l) :
    Calls Try.prog 60 #[.pointer (some ⟨B, 0, none⟩), .int .u32 (s : Int), .slice (some ⟨b, off, none⟩) l.length c] w fun e w' => e = .returned (.int .u32 ((Crc.go s l : Nat) : Int)) ∧ ∃ n, w' = w.drewN n := by
  have hcm0 := hcm
  unfold maxLen at hcm
  have h1 := hT.one
  have HT : Hid (Tab w B) := hT
  clear hT
  go_enter Try.func60, Try.ntmps60
  go_wp2_with (go_at_call 75; refine (made_yes _ _ h1).mono ?_; rintro e w' ⟨rfl, rfl⟩)
  go_loopw [2, 7] (fun d t wr => (∃ n, wr = w'.drewN n) ∧ ∃ k o : Nat, k ≤ l.length ∧ (k < l.length → o = off + k) ∧ d = .slice (some ⟨b, o, none⟩) (l.length - k) (c - k) ∧ t = .int .u32 ((Crc.fe (Crc.nt s) (l.take k) : Nat) : Int)) (fun d _ _ => sliceLen d)
  case atStart => exact ⟨⟨0, rfl⟩, 0, off, Nat.zero_le _, fun _ => rfl, rfl, by rw [bnot hs, List.take_zero, Crc.fe_nil]⟩
  case round =>
    obtain ⟨⟨n, rfl⟩, k, o, hk, ho, rfl, rfl⟩ := hrel
    have hst := Crc.fe_lt (Crc.nt_lt s) (byt_take hb k)
    by_cases hlt : k + 8 ≤ l.length
    · obtain rfl : o = off + k := ho (by omega)
      have cc : ∀ j, j < 8 → w'.cell? ⟨b, off + k + j, none⟩ = some (.int .u8 ((l.getD (k + j) 0 : Nat) : Int)) := by
        intro j hj
        have := hr (k + j) (by omega)
        rwa [← Nat.add_assoc] at this
      have HC : Hid _ := moveEight_any B _ b (off + k) (c - k) _ _ _ _ _ _ _ _ (w'.drewN n) hst (HT.out.drewN n) (by omega) (by omega) (getD_lt hb _) (getD_lt hb _) (getD_lt hb _) (getD_lt hb _) (getD_lt hb _) (getD_lt hb _) (getD_lt hb _) (getD_lt hb _) (cc 0 (by omega)) (cc 1 (by omega)) (cc 2 (by omega)) (cc 3 (by omega)) (cc 4 (by omega)) (cc 5 (by omega)) (cc 6 (by omega)) (cc 7 (by omega))
      have HE : Hid _ := take_eight l k hlt
      clear cc ho
      go_wp2_with fail
      refine Calls.mono HC.out ?_
      rintro e w2 ⟨rfl, m, rfl⟩
      go_wp2
      go_roundw
      case rel => exact ⟨⟨n + m, by rfl⟩, k + 8, if c - k = 8 then off + k else off + k + 8, hlt, by split <;> omega, by split <;> exact slice_eq rfl (by omega) (by omega), by rw [HE.out, Crc.fe_append]; rfl⟩
      case measure => simp [sliceLen]; omega
    · have HG : Hid (Crc.go (Crc.nt (Crc.fe (Crc.nt s) (l.take k))) (l.drop k) = Crc.go s l) := by
        show Crc.go (Crc.nt (Crc.fe (Crc.nt s) (l.take k))) (l.drop k) = Crc.go s l
        rw [Crc.go, Crc.nt_nt hst, ← Crc.fe_append, List.take_append_drop]; rfl
      have hro : Row w' b o (l.drop k) := by
        by_cases hz : k < l.length
        · rw [ho hz]; exact row_drop hr k
        · intro j hj; rw [List.length_drop] at hj; omega
      have HC : Hid _ := byTable_row B _ b o (c - k) (l.drop k) (w'.drewN n) (Crc.nt_lt (Crc.fe (Crc.nt s) (l.take k))) (HT.out.drewN n) (byt_drop hb k) (by rw [List.length_drop]; omega) (hro.drewN n)
      clear ho hro
      rw [List.length_drop] at HC
      go_wp2_with fail
      rw [bnot hst]
      refine Calls.mono HC.out ?_
      rintro e w2 ⟨rfl, rfl⟩
      go_wp2
      go_ret
      exact ⟨ret_int (congrArg _ HG.out), n, rfl⟩
theorem byEight_is (B s : Nat) (v : Value) (l : List Nat) (w : World) (hs : s < 4294967296) (hT : Tab w B) (h : IsB w v l) :
    Calls Try.prog 60 #[.pointer (some ⟨B, 0, none⟩), .int .u32 (s : Int), v] w fun e w' => e = .returned (.int .u32 ((Crc.go s l : Nat) : Int)) ∧ ∃ n, w' = w.drewN n := by
  obtain ⟨hb, hm, ⟨rfl, a, c, rfl⟩ | ⟨b, off, c, rfl, hc, hcm, _, hr⟩⟩ := h
  · exact byEight_nil B s a c w hs hT
  · exact byEight_row B s b off c l w hs hT hb hc hcm hr
end Go.Proofs.Ytnjhbidialngmaa
namespace Go.Proofs.Ytnjhbidialngmaa
open Go.RowKit

def zc : Array Value := Array.replicate 2048 (.int .u32 0)
theorem zero_tab (w : World) : (zeroValue 117).run Try.prog w = .ok (.agg zc) w := by kernel_rfl
/-- The block N of w' has 2048 cells of uint32, of which the first K are as the tables have them. -/
def Made (w' : World) (N K : Nat) : Prop := (∀ j, j < 2048 → ∃ x : Nat, w'.cell? ⟨N, j, none⟩ = some (.int .u32 (x : Int)) ∧ (j < K → x = Crc.tb (j / 256) (j % 256))) ∧ ∀ j, w'.frozen? ⟨N, j, none⟩ = false
theorem Made.tab {w : World} {N : Nat} (h : Made w N 2048) : Tab w N := by
  intro k b hk hb
  obtain ⟨x, hx, he⟩ := h.1 (k * 256 + b) (by omega)
  rw [hx, he (by omega), show (k * 256 + b) / 256 = k by omega, show (k * 256 + b) % 256 = b by omega]
theorem Made.set {w : World} {N K : Nat} (h : Made w N K) (hK : K < 2048) {x : Nat} (hx : x = Crc.tb (K / 256) (K % 256)) : Made (w.setCell ⟨N, K, none⟩ (.int .u32 (x : Int))) N (K + 1) := by
  refine ⟨fun j hj => ?_, fun j => by rw [World.frozen?_setCell]; exact h.2 j⟩
  obtain ⟨y, hy, he⟩ := h.1 j hj
  by_cases e : j = K
  · subst e
    exact ⟨x, World.cell?_setCell_same _ _ _ hy, fun _ => hx⟩
  · refine ⟨y, ?_, fun hlt => he (by omega)⟩
    rw [World.cell?_setCell_other _ _ _ _ (by intro h; injection h; omega)]; exact hy
theorem Made.drewN {w : World} {N K : Nat} (h : Made w N K) (n : Nat) : Made (w.drewN n) N K := h
theorem Made.drew {w : World} {N K : Nat} (h : Made w N K) : Made w.drew N K := h
theorem made_start (w : World) : Made (w.alloc (.cells zc 117)) w.heap.size 0 := by
  refine ⟨fun j hj => ⟨0, ?_, fun h => by omega⟩, fun j => ?_⟩
  · rw [World.cell?_alloc_new]; simp [zc, hj]
  · rw [World.frozen?_alloc_new]
set_option maxRecDepth 100000 in
set_option maxHeartbeats 400000 in
theorem new_any (w : World) :
    Calls Try.prog 59 #[] w fun e w' => e = .returned (.pointer (some ⟨w.heap.size, 0, none⟩)) ∧ Tab w' w.heap.size ∧ Below w.heap.size w w' := by
  have hz := zero_tab
  have HM : Hid _ := made_start w
  have HB : Hid (Below w.heap.size w (w.alloc (.cells zc 117))) := (Below.refl _ _).alloc (Nat.le_refl _) _
  go_enter Try.func59, Try.ntmps59
  go_wp2_with fail
  go_loopw [8] (fun i wr => ∃ k : Nat, k ≤ 256 ∧ i = .int .i64 k ∧ Made wr w.heap.size k ∧ Below w.heap.size w wr) (fun i _ => 256 - (intOf i).toNat)
  case atStart => exact ⟨0, Nat.zero_le _, rfl, HM.out, HB.out⟩
  case round =>
    obtain ⟨k, hk, rfl, hM, hB⟩ := hrel
    by_cases hlt : k < 256
    · obtain ⟨x, hx, _⟩ := hM.1 k (by omega)
      have hf := hM.2 k
      have HM2 : Hid (Made wr w.heap.size k) := hM
      have HB2 : Hid (Below w.heap.size w wr) := hB
      have hwk := u8_u32 k hlt
      clear hM hB HM HB hz
      go_wp2_with fail
      go_region_with (go_at_call 74; refine (moveByte_any _ _ (by omega)).mono ?_; rintro e w' ⟨rfl, rfl⟩)
      go_wp2
      go_roundw
      case rel => exact ⟨k + 1, by omega, by go_num, (HM2.out.set (by omega) (by rw [Nat.div_eq_of_lt hlt, Nat.mod_eq_of_lt hlt]; rfl)).drew, (HB2.out.setCell (p := ⟨w.heap.size, _, none⟩) (Nat.le_refl _) _).drew⟩
      case measure => simp [intOf]; omega
    · obtain rfl : k = 256 := by omega
      clear HM HB hz
      have HM2 : Hid (Made wr w.heap.size (1 * 256)) := hM
      have HB2 : Hid (Below w.heap.size w wr) := hB
      clear hM hB
      go_wp2
      obtain ⟨w1, rfl⟩ : ∃ w1 : World, w1 = wr := ⟨_, rfl⟩
      go_loopw [3] (fun i wr => ∃ k : Nat, 1 ≤ k ∧ k ≤ 8 ∧ i = .int .i64 k ∧ Made wr w.heap.size (k * 256) ∧ Below w.heap.size w wr) (fun i _ => 8 - (intOf i).toNat)
      case atStart => exact ⟨1, by omega, by omega, rfl, HM2.out, HB2.out⟩
      case round =>
        obtain ⟨k, h1, hk, rfl, hM, hB⟩ := hrel
        by_cases hlt : k < 8
        · have hd : decide ((k : Int) < 8) = true := by simp; omega
          have HM2 : Hid (Made wr w.heap.size (k * 256)) := hM
          have HB2 : Hid (Below w.heap.size w wr) := hB
          clear hM hB
          go_wp2
          obtain ⟨w2, rfl⟩ : ∃ w2 : World, w2 = wr := ⟨_, rfl⟩
          go_loopw [25] (fun i wr => ∃ b : Nat, b ≤ 256 ∧ i = .int .i64 b ∧ Made wr w.heap.size (k * 256 + b) ∧ Below w.heap.size w wr) (fun i _ => 256 - (intOf i).toNat)
          case atStart => exact ⟨0, by omega, rfl, HM2.out, HB2.out⟩
          case round =>
            obtain ⟨b, hb, rfl, hM, hB⟩ := hrel
            by_cases hlt2 : b < 256
            · obtain ⟨x, hx, hxe⟩ := hM.1 ((k - 1) * 256 + b) (by omega)
              have ex := hxe (by omega)
              rw [show ((k - 1) * 256 + b) / 256 = k - 1 by omega, show ((k - 1) * 256 + b) % 256 = b by omega] at ex
              have lx : x < 4294967296 := by rw [ex]; exact Crc.tb_lt _ hlt2
              have HE : Hid (Crc.tb k b = Crc.tb 0 (x % 256) ^^^ x / 256) := by
                have := Crc.tb_succ (k - 1) b
                rw [Nat.sub_add_cancel h1, ← ex] at this; exact this
              obtain ⟨j, hj⟩ : ∃ j, j = x % 256 := ⟨_, rfl⟩
              have lj : j < 256 := by omega
              have ej : (x : Int) % 256 = (j : Int) := by omega
              obtain ⟨y, hy, hye⟩ := hM.1 j (by omega)
              have ey := hye (by omega)
              rw [Nat.div_eq_of_lt lj, Nat.mod_eq_of_lt lj] at ey
              have ly : y < 4294967296 := by rw [ey]; exact Crc.tb_lt _ lj
              obtain ⟨z, hz, _⟩ := hM.1 (k * 256 + b) (by omega)
              have hf := hM.2 (k * 256 + b)
              rw [← hj, ← ey] at HE
              have HM3 : Hid (Made wr w.heap.size (k * 256 + b)) := hM
              have HB3 : Hid (Below w.heap.size w wr) := hB
              have HV : Hid (bits .xor .u32 (y : Int) ((x : Int) / 256) = ((Crc.tb k b : Nat) : Int)) := by
                show bits .xor .u32 (y : Int) ((x : Int) / 256) = ((Crc.tb k b : Nat) : Int)
                rw [HE.out, ← bxor ly (by omega)]; rfl
              clear hM hB HM2 HB2 hxe hye ex ey hj
              go_wp2
              go_region
              go_wp2
              go_roundw
              case rel => exact ⟨b + 1, by omega, by go_num, by rw [HV.out]; exact (HM3.out.set (by omega) (by rw [show (k * 256 + b) / 256 = k by omega, show (k * 256 + b) % 256 = b by omega])).drew, (HB3.out.setCell (p := ⟨w.heap.size, _, none⟩) (Nat.le_refl _) _).drew⟩
              case measure => simp [intOf]; omega
            · obtain rfl : b = 256 := by omega
              have HM3 : Hid (Made wr w.heap.size ((k + 1) * 256)) := by
                show Made wr w.heap.size ((k + 1) * 256)
                rw [Nat.add_mul]; exact hM
              have HB3 : Hid (Below w.heap.size w wr) := hB
              clear hM hB HM2 HB2
              go_wp2
              go_roundw
              case rel => exact ⟨k + 1, by omega, by omega, by go_num, HM3.out, HB3.out⟩
              case measure => simp [intOf]; omega
        · obtain rfl : k = 8 := by omega
          have HM3 : Hid (Made wr w.heap.size 2048) := hM
          have HB3 : Hid (Below w.heap.size w wr) := hB
          clear hM hB HM2 HB2
          go_wp2
          go_ret
          exact ⟨rfl, HM3.out.tab, HB3.out⟩
end Go.Proofs.Ytnjhbidialngmaa
