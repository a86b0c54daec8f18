/-
  THE WALK OF ByEight over tables that New has made: it answers what 'Crc.go' says; nothing that was there is turned (the world has drawn, no more).
  THE WALK OF New: it lays one new block, whose cells are the eight tables; nothing that was there is turned.
-/
import Derived.Test.YtolddolfpnkndaaGreatXuaw
import Derived.Deep.RegionWith
namespace Go.Proofs.YtolddolfpnkndaaGreat
open Go.RowKit

def sliceLen : Value → Nat
  | .slice _ n _ => n
  | _ => 0
theorem slice_eq {b o p n m c d : Nat} (h1 : o = p) (h2 : n = m) (h3 : c = d) : Value.slice (some ⟨b, o, none⟩) n c = .slice (some ⟨b, p, none⟩) m d := by rw [h1, h2, h3]
theorem getD_drop (l : List Nat) (m k : Nat) : (l.drop m).getD k 0 = l.getD (m + k) 0 := by
  simp [List.getD_eq_getElem?_getD, List.getElem?_drop]
theorem row_drop {w : World} {b off : Nat} {l : List Nat} (h : Row w b off l) (m : Nat) : Row w b (off + m) (l.drop m) := by
  intro k hk
  rw [List.length_drop] at hk
  rw [getD_drop, Nat.add_assoc]
  exact h (m + k) (by omega)
theorem row_take {w : World} {b off : Nat} {l : List Nat} (h : Row w b off l) (m : Nat) : Row w b off (l.take m) := by
  intro k hk
  rw [List.length_take] at hk
  have e : (l.take m).getD k 0 = l.getD k 0 := by simp [List.getD_eq_getElem?_getD, show k < m by omega]
  rw [e]
  exact h k (by omega)
theorem take_eight (l : List Nat) (m : Nat) (h : m + 8 ≤ l.length) : l.take (m + 8) = l.take m ++ [l.getD m 0, l.getD (m + 1) 0, l.getD (m + 2) 0, l.getD (m + 3) 0, l.getD (m + 4) 0, l.getD (m + 5) 0, l.getD (m + 6) 0, l.getD (m + 7) 0] := by
  rw [take_succ_getD (by omega : m + 7 < l.length), take_succ_getD (by omega : m + 6 < l.length), take_succ_getD (by omega : m + 5 < l.length), take_succ_getD (by omega : m + 4 < l.length), take_succ_getD (by omega : m + 3 < l.length), take_succ_getD (by omega : m + 2 < l.length), take_succ_getD (by omega : m + 1 < l.length), take_succ_getD (by omega : m < l.length)]
  simp
theorem Tab.drewN {w : World} {B : Nat} (h : Tab w B) (n : Nat) : Tab (w.drewN n) B := fun k b hk hb => h k b hk hb
theorem Row.drewN {w : World} {b off : Nat} {l : List Nat} (h : Row w b off l) (n : Nat) : Row (w.drewN n) b off l := fun k hk => h k hk
set_option maxRecDepth 100000 in
set_option maxHeartbeats 400000 in
theorem byEight_nil (B s : Nat) (a : Option Addr) (c : Nat) (w : World) (hs : s < 4294967296) (hT : Tab w B) :
    Calls Tryz.prog 72 #[.pointer (some ⟨B, 0, none⟩), .int .u32 (s : Int), .slice a 0 c] w fun e w' => e = .returned (.int .u32 ((Crc.go s [] : Nat) : Int)) ∧ ∃ n, w' = w.drewN n := by
  have h1 := hT.one
  have HT : Hid (Tab w B) := hT
  clear hT
  go_enter Tryz.func72, Tryz.ntmps72
  go_wp2_with (go_at_call 95; refine (made_yes _ _ h1).mono ?_; rintro e w' ⟨rfl, rfl⟩)
  go_loop [2, 7] (fun d t => d = .slice a 0 c ∧ t = .int .u32 ((Crc.nt s : Nat) : Int)) (fun _ _ => 0)
  case atStart => exact ⟨rfl, by rw [bnot hs]⟩
  case round =>
    obtain ⟨rfl, rfl⟩ := hrel
    go_wp2_with fail
    rw [bnot (Crc.nt_lt s), Crc.nt_nt hs]
    refine (byTable_nil B s a c _ hs HT.out).mono ?_
    rintro e w' ⟨rfl, rfl⟩
    go_wp2
    go_ret
    exact ⟨rfl, 0, rfl⟩
set_option maxRecDepth 100000 in
set_option maxHeartbeats 400000 in
theorem byEight_row (B s : Nat) (b off c : Nat) (l : List Nat) (w : World) (hs : s < 4294967296) (hT : Tab w B) (hb : Crc.Byt l) (hm : l.length ≤ c) (hcm : c ≤ maxLen) (hr : Row w b off l) :
    Calls Tryz.prog 72 #[.pointer (some ⟨B, 0, none⟩), .int .u32 (s : Int), .slice (some ⟨b, off, none⟩) l.length c] w fun e w' => e = .returned (.int .u32 ((Crc.go s l : Nat) : Int)) ∧ ∃ n, w' = w.drewN n := by
  have hcm0 := hcm
  unfold maxLen at hcm
  have h1 := hT.one
  have HT : Hid (Tab w B) := hT
  clear hT
  go_enter Tryz.func72, Tryz.ntmps72
  go_wp2_with (go_at_call 95; refine (made_yes _ _ h1).mono ?_; rintro e w' ⟨rfl, rfl⟩)
  go_loopw [2, 7] (fun d t wr => (∃ n, wr = w'.drewN n) ∧ ∃ k o : Nat, k ≤ l.length ∧ (k < l.length → o = off + k) ∧ d = .slice (some ⟨b, o, none⟩) (l.length - k) (c - k) ∧ t = .int .u32 ((Crc.fe (Crc.nt s) (l.take k) : Nat) : Int)) (fun d _ _ => sliceLen d)
  case atStart => exact ⟨⟨0, rfl⟩, 0, off, Nat.zero_le _, fun _ => rfl, rfl, by rw [bnot hs, List.take_zero, Crc.fe_nil]⟩
  case round =>
    obtain ⟨⟨n, rfl⟩, k, o, hk, ho, rfl, rfl⟩ := hrel
    have hst := Crc.fe_lt (Crc.nt_lt s) (byt_take hb k)
    by_cases hlt : k + 8 ≤ l.length
    · obtain rfl : o = off + k := ho (by omega)
      have cc : ∀ j, j < 8 → w'.cell? ⟨b, off + k + j, none⟩ = some (.int .u8 ((l.getD (k + j) 0 : Nat) : Int)) := by
        intro j hj
        have := hr (k + j) (by omega)
        rwa [← Nat.add_assoc] at this
      have HC : Hid _ := moveEight_any B _ b (off + k) (c - k) _ _ _ _ _ _ _ _ (w'.drewN n) hst (HT.out.drewN n) (by omega) (by omega) (getD_lt hb _) (getD_lt hb _) (getD_lt hb _) (getD_lt hb _) (getD_lt hb _) (getD_lt hb _) (getD_lt hb _) (getD_lt hb _) (cc 0 (by omega)) (cc 1 (by omega)) (cc 2 (by omega)) (cc 3 (by omega)) (cc 4 (by omega)) (cc 5 (by omega)) (cc 6 (by omega)) (cc 7 (by omega))
      have HE : Hid _ := take_eight l k hlt
      clear cc ho
      go_wp2_with fail
      refine Calls.mono HC.out ?_
      rintro e w2 ⟨rfl, m, rfl⟩
      go_wp2
      go_roundw
      case rel => exact ⟨⟨n + m, by rfl⟩, k + 8, if c - k = 8 then off + k else off + k + 8, hlt, by split <;> omega, by split <;> exact slice_eq rfl (by omega) (by omega), by rw [HE.out, Crc.fe_append]; rfl⟩
      case measure => simp [sliceLen]; omega
    · have HG : Hid (Crc.go (Crc.nt (Crc.fe (Crc.nt s) (l.take k))) (l.drop k) = Crc.go s l) := by
        show Crc.go (Crc.nt (Crc.fe (Crc.nt s) (l.take k))) (l.drop k) = Crc.go s l
        rw [Crc.go, Crc.nt_nt hst, ← Crc.fe_append, List.take_append_drop]; rfl
      have hro : Row w' b o (l.drop k) := by
        by_cases hz : k < l.length
        · rw [ho hz]; exact row_drop hr k
        · intro j hj; rw [List.length_drop] at hj; omega
      have HC : Hid _ := byTable_row B _ b o (c - k) (l.drop k) (w'.drewN n) (Crc.nt_lt (Crc.fe (Crc.nt s) (l.take k))) (HT.out.drewN n) (byt_drop hb k) (by rw [List.length_drop]; omega) (hro.drewN n)
      clear ho hro
      rw [List.length_drop] at HC
      go_wp2_with fail
      rw [bnot hst]
      refine Calls.mono HC.out ?_
      rintro e w2 ⟨rfl, rfl⟩
      go_wp2
      go_ret
      exact ⟨ret_int (congrArg _ HG.out), n, rfl⟩
theorem byEight_is (B s : Nat) (v : Value) (l : List Nat) (w : World) (hs : s < 4294967296) (hT : Tab w B) (h : IsB w v l) :
    Calls Tryz.prog 72 #[.pointer (some ⟨B, 0, none⟩), .int .u32 (s : Int), v] w fun e w' => e = .returned (.int .u32 ((Crc.go s l : Nat) : Int)) ∧ ∃ n, w' = w.drewN n := by
  obtain ⟨hb, hm, ⟨rfl, a, c, rfl⟩ | ⟨b, off, c, rfl, hc, hcm, _, hr⟩⟩ := h
  · exact byEight_nil B s a c w hs hT
  · exact byEight_row B s b off c l w hs hT hb hc hcm hr
end Go.Proofs.YtolddolfpnkndaaGreat
namespace Go.Proofs.YtolddolfpnkndaaGreat
open Go.RowKit

def zc : Array Value := Array.replicate 2048 (.int .u32 0)
theorem zero_tab (w : World) : (zeroValue 177).run Tryz.prog w = .ok (.agg zc) w := by kernel_rfl
/-- The block N of w' has 2048 cells of uint32, of which the first K are as the tables have them. -/
def Made (w' : World) (N K : Nat) : Prop := (∀ j, j < 2048 → ∃ x : Nat, w'.cell? ⟨N, j, none⟩ = some (.int .u32 (x : Int)) ∧ (j < K → x = Crc.tb (j / 256) (j % 256))) ∧ ∀ j, w'.frozen? ⟨N, j, none⟩ = false
theorem Made.tab {w : World} {N : Nat} (h : Made w N 2048) : Tab w N := by
  intro k b hk hb
  obtain ⟨x, hx, he⟩ := h.1 (k * 256 + b) (by omega)
  rw [hx, he (by omega), show (k * 256 + b) / 256 = k by omega, show (k * 256 + b) % 256 = b by omega]
theorem Made.set {w : World} {N K : Nat} (h : Made w N K) (hK : K < 2048) {x : Nat} (hx : x = Crc.tb (K / 256) (K % 256)) : Made (w.setCell ⟨N, K, none⟩ (.int .u32 (x : Int))) N (K + 1) := by
  refine ⟨fun j hj => ?_, fun j => by rw [World.frozen?_setCell]; exact h.2 j⟩
  obtain ⟨y, hy, he⟩ := h.1 j hj
  by_cases e : j = K
  · subst e
    exact ⟨x, World.cell?_setCell_same _ _ _ hy, fun _ => hx⟩
  · refine ⟨y, ?_, fun hlt => he (by omega)⟩
    rw [World.cell?_setCell_other _ _ _ _ (by intro h; injection h; omega)]; exact hy
theorem Made.drewN {w : World} {N K : Nat} (h : Made w N K) (n : Nat) : Made (w.drewN n) N K := h
theorem Made.drew {w : World} {N K : Nat} (h : Made w N K) : Made w.drew N K := h
theorem made_start (w : World) : Made (w.alloc (.cells zc 177)) w.heap.size 0 := by
  refine ⟨fun j hj => ⟨0, ?_, fun h => by omega⟩, fun j => ?_⟩
  · rw [World.cell?_alloc_new]; simp [zc, hj]
  · rw [World.frozen?_alloc_new]
set_option maxRecDepth 100000 in
set_option maxHeartbeats 400000 in
theorem new_any (w : World) :
    Calls Tryz.prog 71 #[] w fun e w' => e = .returned (.pointer (some ⟨w.heap.size, 0, none⟩)) ∧ Tab w' w.heap.size ∧ Below w.heap.size w w' := by
  have hz := zero_tab
  have HM : Hid _ := made_start w
  have HB : Hid (Below w.heap.size w (w.alloc (.cells zc 177))) := (Below.refl _ _).alloc (Nat.le_refl _) _
  go_enter Tryz.func71, Tryz.ntmps71
  go_wp2_with fail
  go_loopw [8] (fun i wr => ∃ k : Nat, k ≤ 256 ∧ i = .int .i64 k ∧ Made wr w.heap.size k ∧ Below w.heap.size w wr) (fun i _ => 256 - (intOf i).toNat)
  case atStart => exact ⟨0, Nat.zero_le _, rfl, HM.out, HB.out⟩
  case round =>
    obtain ⟨k, hk, rfl, hM, hB⟩ := hrel
    by_cases hlt : k < 256
    · obtain ⟨x, hx, _⟩ := hM.1 k (by omega)
      have hf := hM.2 k
      have HM2 : Hid (Made wr w.heap.size k) := hM
      have HB2 : Hid (Below w.heap.size w wr) := hB
      have hwk := u8_u32 k hlt
      clear hM hB HM HB hz
      go_wp2_with fail
      go_region_with (go_at_call 94; refine (moveByte_any _ _ (by omega)).mono ?_; rintro e w' ⟨rfl, rfl⟩)
      go_wp2
      go_roundw
      case rel => exact ⟨k + 1, by omega, by go_num, (HM2.out.set (by omega) (by rw [Nat.div_eq_of_lt hlt, Nat.mod_eq_of_lt hlt]; rfl)).drew, (HB2.out.setCell (p := ⟨w.heap.size, _, none⟩) (Nat.le_refl _) _).drew⟩
      case measure => simp [intOf]; omega
    · obtain rfl : k = 256 := by omega
      clear HM HB hz
      have HM2 : Hid (Made wr w.heap.size (1 * 256)) := hM
      have HB2 : Hid (Below w.heap.size w wr) := hB
      clear hM hB
      go_wp2
      obtain ⟨w1, rfl⟩ : ∃ w1 : World, w1 = wr := ⟨_, rfl⟩
      go_loopw [3] (fun i wr => ∃ k : Nat, 1 ≤ k ∧ k ≤ 8 ∧ i = .int .i64 k ∧ Made wr w.heap.size (k * 256) ∧ Below w.heap.size w wr) (fun i _ => 8 - (intOf i).toNat)
      case atStart => exact ⟨1, by omega, by omega, rfl, HM2.out, HB2.out⟩
      case round =>
        obtain ⟨k, h1, hk, rfl, hM, hB⟩ := hrel
        by_cases hlt : k < 8
        · have hd : decide ((k : Int) < 8) = true := by simp; omega
          have HM2 : Hid (Made wr w.heap.size (k * 256)) := hM
          have HB2 : Hid (Below w.heap.size w wr) := hB
          clear hM hB
          go_wp2
          obtain ⟨w2, rfl⟩ : ∃ w2 : World, w2 = wr := ⟨_, rfl⟩
          go_loopw [25] (fun i wr => ∃ b : Nat, b ≤ 256 ∧ i = .int .i64 b ∧ Made wr w.heap.size (k * 256 + b) ∧ Below w.heap.size w wr) (fun i _ => 256 - (intOf i).toNat)
          case atStart => exact ⟨0, by omega, rfl, HM2.out, HB2.out⟩
          case round =>
            obtain ⟨b, hb, rfl, hM, hB⟩ := hrel
            by_cases hlt2 : b < 256
            · obtain ⟨x, hx, hxe⟩ := hM.1 ((k - 1) * 256 + b) (by omega)
              have ex := hxe (by omega)
              rw [show ((k - 1) * 256 + b) / 256 = k - 1 by omega, show ((k - 1) * 256 + b) % 256 = b by omega] at ex
              have lx : x < 4294967296 := by rw [ex]; exact Crc.tb_lt _ hlt2
              have HE : Hid (Crc.tb k b = Crc.tb 0 (x % 256) ^^^ x / 256) := by
                have := Crc.tb_succ (k - 1) b
                rw [Nat.sub_add_cancel h1, ← ex] at this; exact this
              obtain ⟨j, hj⟩ : ∃ j, j = x % 256 := ⟨_, rfl⟩
              have lj : j < 256 := by omega
              have ej : (x : Int) % 256 = (j : Int) := by omega
              obtain ⟨y, hy, hye⟩ := hM.1 j (by omega)
              have ey := hye (by omega)
              rw [Nat.div_eq_of_lt lj, Nat.mod_eq_of_lt lj] at ey
              have ly : y < 4294967296 := by rw [ey]; exact Crc.tb_lt _ lj
              obtain ⟨z, hz, _⟩ := hM.1 (k * 256 + b) (by omega)
              have hf := hM.2 (k * 256 + b)
              rw [← hj, ← ey] at HE
              have HM3 : Hid (Made wr w.heap.size (k * 256 + b)) := hM
              have HB3 : Hid (Below w.heap.size w wr) := hB
              have HV : Hid (bits .xor .u32 (y : Int) ((x : Int) / 256) = ((Crc.tb k b : Nat) : Int)) := by
                show bits .xor .u32 (y : Int) ((x : Int) / 256) = ((Crc.tb k b : Nat) : Int)
                rw [HE.out, ← bxor ly (by omega)]; rfl
              clear hM hB HM2 HB2 hxe hye ex ey hj
              go_wp2
              go_region
              go_wp2
              go_roundw
              case rel => exact ⟨b + 1, by omega, by go_num, by rw [HV.out]; exact (HM3.out.set (by omega) (by rw [show (k * 256 + b) / 256 = k by omega, show (k * 256 + b) % 256 = b by omega])).drew, (HB3.out.setCell (p := ⟨w.heap.size, _, none⟩) (Nat.le_refl _) _).drew⟩
              case measure => simp [intOf]; omega
            · obtain rfl : b = 256 := by omega
              have HM3 : Hid (Made wr w.heap.size ((k + 1) * 256)) := by
                show Made wr w.heap.size ((k + 1) * 256)
                rw [Nat.add_mul]; exact hM
              have HB3 : Hid (Below w.heap.size w wr) := hB
              clear hM hB HM2 HB2
              go_wp2
              go_roundw
              case rel => exact ⟨k + 1, by omega, by omega, by go_num, HM3.out, HB3.out⟩
              case measure => simp [intOf]; omega
        · obtain rfl : k = 8 := by omega
          have HM3 : Hid (Made wr w.heap.size 2048) := hM
          have HB3 : Hid (Below w.heap.size w wr) := hB
          clear hM hB HM2 HB2
          go_wp2
          go_ret
          exact ⟨rfl, HM3.out.tab, HB3.out⟩
end Go.Proofs.YtolddolfpnkndaaGreat
