/-
  THE WALK OF New: it lays one new block, whose cells are the eight tables; nothing that was there is turned.
  THE WALKS OF sumWith (by Bitwise, by the method value ByEight) and of Sum: the sum of all parts, one behind the other.
-/
import Derived.Test.YtabfgoojhangnaaXeat
import Derived.Deep.RegionWith
namespace Go.Proofs.Ytabfgoojhangnaa
open Go.RowKit

def zc : Array Value := Array.replicate 2048 (.int .u32 0)
theorem zero_tab (w : World) : (zeroValue 114).run Try.prog w = .ok (.agg zc) w := by kernel_rfl
/-- The block N of w' has 2048 cells of uint32, of which the first K are as the tables have them. -/
def Made (w' : World) (N K : Nat) : Prop := (∀ j, j < 2048 → ∃ x : Nat, w'.cell? ⟨N, j, none⟩ = some (.int .u32 (x : Int)) ∧ (j < K → x = Crc.tb (j / 256) (j % 256))) ∧ ∀ j, w'.frozen? ⟨N, j, none⟩ = false
theorem Made.tab {w : World} {N : Nat} (h : Made w N 2048) : Tab w N := by
  intro k b hk hb
  obtain ⟨x, hx, he⟩ := h.1 (k * 256 + b) (by omega)
  rw [hx, he (by omega), show (k * 256 + b) / 256 = k by omega, show (k * 256 + b) % 256 = b by omega]
theorem Made.set {w : World} {N K : Nat} (h : Made w N K) (hK : K < 2048) {x : Nat} (hx : x = Crc.tb (K / 256) (K % 256)) : Made (w.setCell ⟨N, K, none⟩ (.int .u32 (x : Int))) N (K + 1) := by
  refine ⟨fun j hj => ?_, fun j => by rw [World.frozen?_setCell]; exact h.2 j⟩
  obtain ⟨y, hy, he⟩ := h.1 j hj
  by_cases e : j = K
  · subst e
    exact ⟨x, World.cell?_setCell_same _ _ _ hy, fun _ => hx⟩
  · refine ⟨y, ?_, fun hlt => he (by omega)⟩
    rw [World.cell?_setCell_other _ _ _ _ (by intro h; injection h; omega)]; exact hy
theorem Made.drewN {w : World} {N K : Nat} (h : Made w N K) (n : Nat) : Made (w.drewN n) N K := h
theorem Made.drew {w : World} {N K : Nat} (h : Made w N K) : Made w.drew N K := h
theorem made_start (w : World) : Made (w.alloc (.cells zc 114)) w.heap.size 0 := by
  refine ⟨fun j hj => ⟨0, ?_, fun h => by omega⟩, fun j => ?_⟩
  · rw [World.cell?_alloc_new]; simp [zc, hj]
  · rw [World.frozen?_alloc_new]
set_option maxRecDepth 100000 in
set_option maxHeartbeats 400000 in
theorem new_any (w : World) :
    Calls Try.prog 45 #[] w fun e w' => e = .returned (.pointer (some ⟨w.heap.size, 0, none⟩)) ∧ Tab w' w.heap.size ∧ Below w.heap.size w w' := by
  have hz := zero_tab
  have HM : Hid _ := made_start w
  have HB : Hid (Below w.heap.size w (w.alloc (.cells zc 114))) := (Below.refl _ _).alloc (Nat.le_refl _) _
  go_enter Try.func45, Try.ntmps45
  go_wp2_with fail
  go_loopw [8] (fun i wr => ∃ k : Nat, k ≤ 256 ∧ i = .int .i64 k ∧ Made wr w.heap.size k ∧ Below w.heap.size w wr) (fun i _ => 256 - (intOf i).toNat)
  case atStart => exact ⟨0, Nat.zero_le _, rfl, HM.out, HB.out⟩
  case round =>
    obtain ⟨k, hk, rfl, hM, hB⟩ := hrel
    by_cases hlt : k < 256
    · obtain ⟨x, hx, _⟩ := hM.1 k (by omega)
      have hf := hM.2 k
      have HM2 : Hid (Made wr w.heap.size k) := hM
      have HB2 : Hid (Below w.heap.size w wr) := hB
      have hwk := u8_u32 k hlt
      clear hM hB HM HB hz
      go_wp2_with fail
      go_region_with (go_at_call 59; refine (moveByte_any _ _ (by omega)).mono ?_; rintro e w' ⟨rfl, rfl⟩)
      go_wp2
      go_roundw
      case rel => exact ⟨k + 1, by omega, by go_num, (HM2.out.set (by omega) (by rw [Nat.div_eq_of_lt hlt, Nat.mod_eq_of_lt hlt]; rfl)).drew, (HB2.out.setCell (p := ⟨w.heap.size, _, none⟩) (Nat.le_refl _) _).drew⟩
      case measure => simp [intOf]; omega
    · obtain rfl : k = 256 := by omega
      clear HM HB hz
      have HM2 : Hid (Made wr w.heap.size (1 * 256)) := hM
      have HB2 : Hid (Below w.heap.size w wr) := hB
      clear hM hB
      go_wp2
      obtain ⟨w1, rfl⟩ : ∃ w1 : World, w1 = wr := ⟨_, rfl⟩
      go_loopw [3] (fun i wr => ∃ k : Nat, 1 ≤ k ∧ k ≤ 8 ∧ i = .int .i64 k ∧ Made wr w.heap.size (k * 256) ∧ Below w.heap.size w wr) (fun i _ => 8 - (intOf i).toNat)
      case atStart => exact ⟨1, by omega, by omega, rfl, HM2.out, HB2.out⟩
      case round =>
        obtain ⟨k, h1, hk, rfl, hM, hB⟩ := hrel
        by_cases hlt : k < 8
        · have hd : decide ((k : Int) < 8) = true := by simp; omega
          have HM2 : Hid (Made wr w.heap.size (k * 256)) := hM
          have HB2 : Hid (Below w.heap.size w wr) := hB
          clear hM hB
          go_wp2
          obtain ⟨w2, rfl⟩ : ∃ w2 : World, w2 = wr := ⟨_, rfl⟩
          go_loopw [25] (fun i wr => ∃ b : Nat, b ≤ 256 ∧ i = .int .i64 b ∧ Made wr w.heap.size (k * 256 + b) ∧ Below w.heap.size w wr) (fun i _ => 256 - (intOf i).toNat)
          case atStart => exact ⟨0, by omega, rfl, HM2.out, HB2.out⟩
          case round =>
            obtain ⟨b, hb, rfl, hM, hB⟩ := hrel
            by_cases hlt2 : b < 256
            · obtain ⟨x, hx, hxe⟩ := hM.1 ((k - 1) * 256 + b) (by omega)
              have ex := hxe (by omega)
              rw [show ((k - 1) * 256 + b) / 256 = k - 1 by omega, show ((k - 1) * 256 + b) % 256 = b by omega] at ex
              have lx : x < 4294967296 := by rw [ex]; exact Crc.tb_lt _ hlt2
              have HE : Hid (Crc.tb k b = Crc.tb 0 (x % 256) ^^^ x / 256) := by
                have := Crc.tb_succ (k - 1) b
                rw [Nat.sub_add_cancel h1, ← ex] at this; exact this
              obtain ⟨j, hj⟩ : ∃ j, j = x % 256 := ⟨_, rfl⟩
              have lj : j < 256 := by omega
              have ej : (x : Int) % 256 = (j : Int) := by omega
              obtain ⟨y, hy, hye⟩ := hM.1 j (by omega)
              have ey := hye (by omega)
              rw [Nat.div_eq_of_lt lj, Nat.mod_eq_of_lt lj] at ey
              have ly : y < 4294967296 := by rw [ey]; exact Crc.tb_lt _ lj
              obtain ⟨z, hz, _⟩ := hM.1 (k * 256 + b) (by omega)
              have hf := hM.2 (k * 256 + b)
              rw [← hj, ← ey] at HE
              have HM3 : Hid (Made wr w.heap.size (k * 256 + b)) := hM
              have HB3 : Hid (Below w.heap.size w wr) := hB
              have HV : Hid (bits .xor .u32 (y : Int) ((x : Int) / 256) = ((Crc.tb k b : Nat) : Int)) := by
                show bits .xor .u32 (y : Int) ((x : Int) / 256) = ((Crc.tb k b : Nat) : Int)
                rw [HE.out, ← bxor ly (by omega)]; rfl
              clear hM hB HM2 HB2 hxe hye ex ey hj
              go_wp2
              go_region
              go_wp2
              go_roundw
              case rel => exact ⟨b + 1, by omega, by go_num, by rw [HV.out]; exact (HM3.out.set (by omega) (by rw [show (k * 256 + b) / 256 = k by omega, show (k * 256 + b) % 256 = b by omega])).drew, (HB3.out.setCell (p := ⟨w.heap.size, _, none⟩) (Nat.le_refl _) _).drew⟩
              case measure => simp [intOf]; omega
            · obtain rfl : b = 256 := by omega
              have HM3 : Hid (Made wr w.heap.size ((k + 1) * 256)) := by
                show Made wr w.heap.size ((k + 1) * 256)
                rw [Nat.add_mul]; exact hM
              have HB3 : Hid (Below w.heap.size w wr) := hB
              clear hM hB HM2 HB2
              go_wp2
              go_roundw
              case rel => exact ⟨k + 1, by omega, by omega, by go_num, HM3.out, HB3.out⟩
              case measure => simp [intOf]; omega
        · obtain rfl : k = 8 := by omega
          have HM3 : Hid (Made wr w.heap.size 2048) := hM
          have HB3 : Hid (Below w.heap.size w wr) := hB
          clear hM hB HM2 HB2
          go_wp2
          go_ret
          exact ⟨rfl, HM3.out.tab, HB3.out⟩
end Go.Proofs.Ytabfgoojhangnaa
namespace Go.Proofs.Ytabfgoojhangnaa
open Go.RowKit

theorem IsB.drewN {w : World} {v : Value} {l : List Nat} (h : IsB w v l) (n : Nat) : IsB (w.drewN n) v l := h
theorem IsB.shape {w : World} {v : Value} {l : List Nat} (h : IsB w v l) : ∃ a c, v = .slice a l.length c := by
  obtain ⟨_, _, ⟨rfl, a, c, rfl⟩ | ⟨b, off, c, rfl, _⟩⟩ := h
  · exact ⟨a, c, rfl⟩
  · exact ⟨_, c, rfl⟩
theorem IsB.below {w w' : World} {v : Value} {l : List Nat} (h : IsB w v l) (hb : Below w.heap.size w w') : IsB w' v l := by
  obtain ⟨h1, h2, ⟨rfl, a, c, rfl⟩ | ⟨b, off, c, rfl, h3, h4, h5, h6⟩⟩ := h
  · exact ⟨h1, h2, .inl ⟨rfl, a, c, rfl⟩⟩
  · refine ⟨h1, h2, .inr ⟨b, off, c, rfl, h3, h4, Nat.lt_of_lt_of_le h5 hb.size, fun k hk => ?_⟩⟩
    rw [hb.cell h5]; exact h6 k hk
/-- The parts: a slice of slices of bytes. -/
def IsPs (w : World) (b off : Nat) (ls : List (List Nat)) : Prop := ∀ i, i < ls.length → ∃ v, w.cell? ⟨b, off + i, none⟩ = some v ∧ IsB w v (ls.getD i [])
def IsP (w : World) (v : Value) (ls : List (List Nat)) : Prop :=
  ls.length ≤ maxLen ∧ ((ls = [] ∧ ∃ a c, v = .slice a 0 c) ∨ ∃ b off c, v = .slice (some ⟨b, off, none⟩) ls.length c ∧ b < w.heap.size ∧ IsPs w b off ls)
theorem byt_flatten {w : World} {b off : Nat} {ls : List (List Nat)} (h : IsPs w b off ls) (k : Nat) : Crc.Byt (ls.take k).flatten := by
  intro x hx
  obtain ⟨l, hl, hxl⟩ := List.mem_flatten.1 hx
  obtain ⟨i, hi, he⟩ := List.getElem_of_mem (List.mem_of_mem_take hl)
  obtain ⟨v, _, hB⟩ := h i hi
  rw [List.getD_eq_getElem?_getD, List.getElem?_eq_getElem hi, he] at hB
  exact hB.1 x hxl
theorem takes_succ {ls : List (List Nat)} {k : Nat} (h : k < ls.length) : (ls.take (k + 1)).flatten = (ls.take k).flatten ++ ls.getD k [] := by
  rw [List.take_succ_eq_append_getElem h, List.getD_eq_getElem?_getD, List.getElem?_eq_getElem h, List.flatten_append]; simp
set_option maxRecDepth 100000 in
set_option maxHeartbeats 400000 in
theorem sumWith_bitwise (b off c : Nat) (ls : List (List Nat)) (w : World) (hm : ls.length ≤ maxLen) (hP : IsPs w b off ls) :
    Calls Try.prog 43 #[.func (.func 44) #[] #[], .slice (some ⟨b, off, none⟩) ls.length c] w fun e w' => e = .returned (.int .u32 ((Crc.go 0 ls.flatten : Nat) : Int)) ∧ ∃ n, w' = w.drewN n := by
  unfold maxLen at hm
  have HP : Hid (IsPs w b off ls) := hP
  clear hP
  go_enter Try.func43, Try.ntmps43
  go_wp2
  go_loopw [5, 10] (fun t i wr => (∃ n, wr = w.drewN n) ∧ ∃ k : Nat, k ≤ ls.length ∧ i = .int .i64 k ∧ t = .int .u32 ((Crc.go 0 (ls.take k).flatten : Nat) : Int)) (fun _ i _ => ls.length - (intOf i).toNat)
  case atStart => exact ⟨⟨0, rfl⟩, 0, Nat.zero_le _, rfl, by rw [List.take_zero, List.flatten_nil, Crc.go_nil (by omega)]; rfl⟩
  case round =>
    obtain ⟨⟨n, rfl⟩, k, hk, rfl, rfl⟩ := hrel
    by_cases hlt : k < ls.length
    · obtain ⟨v, hv, hB⟩ := HP.out k hlt
      have HE : Hid (Crc.go (Crc.go 0 (ls.take k).flatten) (ls.getD k []) = Crc.go 0 (ls.take (k + 1)).flatten) := by
        show Crc.go (Crc.go 0 (ls.take k).flatten) (ls.getD k []) = Crc.go 0 (ls.take (k + 1)).flatten
        rw [takes_succ hlt, Crc.go_append _ (byt_flatten HP.out k)]
      generalize ls.getD k [] = l at *
      have HC : Hid _ := bitwise_is _ v _ (w.drewN n) (Crc.go_lt 0 (ls.take k).flatten) (hB.drewN n)
      obtain ⟨a, c', e⟩ := hB.shape
      rw [e] at hv HC
      clear hB e
      go_wp2_with fail
      refine Calls.mono HC.out ?_
      rintro e w2 ⟨rfl, rfl⟩
      go_wp2
      go_roundw
      case rel => exact ⟨⟨n, by rfl⟩, k + 1, hlt, by go_num, by rw [HE.out]⟩
      case measure => simp [intOf]; omega
    · obtain rfl : k = ls.length := by omega
      go_wp2
      go_ret
      exact ⟨ret_int (by rw [List.take_length]), n, rfl⟩
set_option maxRecDepth 100000 in
set_option maxHeartbeats 400000 in
theorem sumWith_byEight (B : Nat) (b off c : Nat) (ls : List (List Nat)) (w : World) (hm : ls.length ≤ maxLen) (hP : IsPs w b off ls) (hT : Tab w B) :
    Calls Try.prog 43 #[.func (.func 46) #[.pointer (some ⟨B, 0, none⟩)] #[], .slice (some ⟨b, off, none⟩) ls.length c] w fun e w' => e = .returned (.int .u32 ((Crc.go 0 ls.flatten : Nat) : Int)) ∧ ∃ n, w' = w.drewN n := by
  unfold maxLen at hm
  have HP : Hid (IsPs w b off ls) := hP
  clear hP
  have HT : Hid (Tab w B) := hT
  clear hT
  go_enter Try.func43, Try.ntmps43
  go_wp2
  go_loopw [5, 10] (fun t i wr => (∃ n, wr = w.drewN n) ∧ ∃ k : Nat, k ≤ ls.length ∧ i = .int .i64 k ∧ t = .int .u32 ((Crc.go 0 (ls.take k).flatten : Nat) : Int)) (fun _ i _ => ls.length - (intOf i).toNat)
  case atStart => exact ⟨⟨0, rfl⟩, 0, Nat.zero_le _, rfl, by rw [List.take_zero, List.flatten_nil, Crc.go_nil (by omega)]; rfl⟩
  case round =>
    obtain ⟨⟨n, rfl⟩, k, hk, rfl, rfl⟩ := hrel
    by_cases hlt : k < ls.length
    · obtain ⟨v, hv, hB⟩ := HP.out k hlt
      have HE : Hid (Crc.go (Crc.go 0 (ls.take k).flatten) (ls.getD k []) = Crc.go 0 (ls.take (k + 1)).flatten) := by
        show Crc.go (Crc.go 0 (ls.take k).flatten) (ls.getD k []) = Crc.go 0 (ls.take (k + 1)).flatten
        rw [takes_succ hlt, Crc.go_append _ (byt_flatten HP.out k)]
      generalize ls.getD k [] = l at *
      have HC : Hid _ := byEight_is B _ v _ (w.drewN n) (Crc.go_lt 0 (ls.take k).flatten) (HT.out.drewN n) (hB.drewN n)
      obtain ⟨a, c', e⟩ := hB.shape
      rw [e] at hv HC
      clear hB e
      go_wp2_with fail
      refine Calls.mono HC.out ?_
      rintro e w2 ⟨rfl, m, rfl⟩
      go_wp2
      go_roundw
      case rel => exact ⟨⟨n + m, by rfl⟩, k + 1, hlt, by go_num, by rw [HE.out]⟩
      case measure => simp [intOf]; omega
    · obtain rfl : k = ls.length := by omega
      go_wp2
      go_ret
      exact ⟨ret_int (by rw [List.take_length]), n, rfl⟩
end Go.Proofs.Ytabfgoojhangnaa
