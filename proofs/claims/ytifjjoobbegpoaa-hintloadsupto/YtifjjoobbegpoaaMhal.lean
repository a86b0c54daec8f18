/-
  THE WALK OF ByEight over tables that New has made: it answers what 'Crc.go' says; nothing that was there is turned (the world has drawn, no more).
  THE WALK OF New: it lays one new block, whose cells are the eight tables; nothing that was there is turned.
  THE WALKS OF sumWith (by Bitwise, by the method value ByEight) and of Sum: the sum of all parts, one behind the other.
  THE WALK OF Sum: of whatever parts, nil ones and none among them, it answers the sum of all, one behind the other; nothing that was there is turned.
  Sum OF ONE, TWO, THREE PARTS that the caller has just laid side by side; parts of a slice.
-/
import Derived.Test.YtifjjoobbegpoaaMhak
import Derived.Deep.RegionWith
namespace Go.Proofs.Ytifjjoobbegpoaa
open Go.RowKit

def sliceLen : Value → Nat
  | .slice _ n _ => n
  | _ => 0
theorem slice_eq {b o p n m c d : Nat} (h1 : o = p) (h2 : n = m) (h3 : c = d) : Value.slice (some ⟨b, o, none⟩) n c = .slice (some ⟨b, p, none⟩) m d := by rw [h1, h2, h3]
theorem getD_drop (l : List Nat) (m k : Nat) : (l.drop m).getD k 0 = l.getD (m + k) 0 := by
  simp [List.getD_eq_getElem?_getD, List.getElem?_drop]
theorem row_drop {w : World} {b off : Nat} {l : List Nat} (h : Row w b off l) (m : Nat) : Row w b (off + m) (l.drop m) := by
  intro k hk
  rw [List.length_drop] at hk
  rw [getD_drop, Nat.add_assoc]
  exact h (m + k) (by omega)
theorem row_take {w : World} {b off : Nat} {l : List Nat} (h : Row w b off l) (m : Nat) : Row w b off (l.take m) := by
  intro k hk
  rw [List.length_take] at hk
  have e : (l.take m).getD k 0 = l.getD k 0 := by simp [List.getD_eq_getElem?_getD, show k < m by omega]
  rw [e]
  exact h k (by omega)
theorem take_eight (l : List Nat) (m : Nat) (h : m + 8 ≤ l.length) : l.take (m + 8) = l.take m ++ [l.getD m 0, l.getD (m + 1) 0, l.getD (m + 2) 0, l.getD (m + 3) 0, l.getD (m + 4) 0, l.getD (m + 5) 0, l.getD (m + 6) 0, l.getD (m + 7) 0] := by
  rw [take_succ_getD (by omega : m + 7 < l.length), take_succ_getD (by omega : m + 6 < l.length), take_succ_getD (by omega : m + 5 < l.length), take_succ_getD (by omega : m + 4 < l.length), take_succ_getD (by omega : m + 3 < l.length), take_succ_getD (by omega : m + 2 < l.length), take_succ_getD (by omega : m + 1 < l.length), take_succ_getD (by omega : m < l.length)]
  simp
theorem Tab.drewN {w : World} {B : Nat} (h : Tab w B) (n : Nat) : Tab (w.drewN n) B := fun k b hk hb => h k b hk hb
theorem Row.drewN {w : World} {b off : Nat} {l : List Nat} (h : Row w b off l) (n : Nat) : Row (w.drewN n) b off l := fun k hk => h k hk
set_option maxRecDepth 100000 in
set_option maxHeartbeats 400000 in
theorem byEight_nil (B s : Nat) (a : Option Addr) (c : Nat) (w : World) (hs : s < 4294967296) (hT : Tab w B) :
    Calls Try.prog 74 #[.pointer (some ⟨B, 0, none⟩), .int .u32 (s : Int), .slice a 0 c] w fun e w' => e = .returned (.int .u32 ((Crc.go s [] : Nat) : Int)) ∧ ∃ n, w' = w.drewN n := by
  have h1 := hT.one
  have HT : Hid (Tab w B) := hT
  clear hT
  go_enter Try.func74, Try.ntmps74
  go_wp2_with (go_at_call 89; refine (made_yes _ _ h1).mono ?_; rintro e w' ⟨rfl, rfl⟩)
  go_loop [2, 7] (fun d t => d = .slice a 0 c ∧ t = .int .u32 ((Crc.nt s : Nat) : Int)) (fun _ _ => 0)
  case atStart => exact ⟨rfl, by rw [bnot hs]⟩
  case round =>
    obtain ⟨rfl, rfl⟩ := hrel
    go_wp2_with fail
    rw [bnot (Crc.nt_lt s), Crc.nt_nt hs]
    refine (byTable_nil B s a c _ hs HT.out).mono ?_
    rintro e w' ⟨rfl, rfl⟩
    go_wp2
    go_ret
    exact ⟨rfl, 0, rfl⟩
set_option maxRecDepth 100000 in
set_option maxHeartbeats 400000 in
theorem byEight_row (B s : Nat) (b off c : Nat) (l : List Nat) (w : World) (hs : s < 4294967296) (hT : Tab w B) (hb : Crc.Byt l) (hm : l.length ≤ c) (hcm : c ≤ maxLen) (hr : Row w b off l) :
    Calls Try.prog 74 #[.pointer (some ⟨B, 0, none⟩), .int .u32 (s : Int), .slice (some ⟨b, off, none⟩) l.length c] w fun e w' => e = .returned (.int .u32 ((Crc.go s l : Nat) : Int)) ∧ ∃ n, w' = w.drewN n := by
  have hcm0 := hcm
  unfold maxLen at hcm
  have h1 := hT.one
  have HT : Hid (Tab w B) := hT
  clear hT
  go_enter Try.func74, Try.ntmps74
  go_wp2_with (go_at_call 89; refine (made_yes _ _ h1).mono ?_; rintro e w' ⟨rfl, rfl⟩)
  go_loopw [2, 7] (fun d t wr => (∃ n, wr = w'.drewN n) ∧ ∃ k o : Nat, k ≤ l.length ∧ (k < l.length → o = off + k) ∧ d = .slice (some ⟨b, o, none⟩) (l.length - k) (c - k) ∧ t = .int .u32 ((Crc.fe (Crc.nt s) (l.take k) : Nat) : Int)) (fun d _ _ => sliceLen d)
  case atStart => exact ⟨⟨0, rfl⟩, 0, off, Nat.zero_le _, fun _ => rfl, rfl, by rw [bnot hs, List.take_zero, Crc.fe_nil]⟩
  case round =>
    obtain ⟨⟨n, rfl⟩, k, o, hk, ho, rfl, rfl⟩ := hrel
    have hst := Crc.fe_lt (Crc.nt_lt s) (byt_take hb k)
    by_cases hlt : k + 8 ≤ l.length
    · obtain rfl : o = off + k := ho (by omega)
      have cc : ∀ j, j < 8 → w'.cell? ⟨b, off + k + j, none⟩ = some (.int .u8 ((l.getD (k + j) 0 : Nat) : Int)) := by
        intro j hj
        have := hr (k + j) (by omega)
        rwa [← Nat.add_assoc] at this
      have HC : Hid _ := moveEight_any B _ b (off + k) (c - k) _ _ _ _ _ _ _ _ (w'.drewN n) hst (HT.out.drewN n) (by omega) (by omega) (getD_lt hb _) (getD_lt hb _) (getD_lt hb _) (getD_lt hb _) (getD_lt hb _) (getD_lt hb _) (getD_lt hb _) (getD_lt hb _) (cc 0 (by omega)) (cc 1 (by omega)) (cc 2 (by omega)) (cc 3 (by omega)) (cc 4 (by omega)) (cc 5 (by omega)) (cc 6 (by omega)) (cc 7 (by omega))
      have HE : Hid _ := take_eight l k hlt
      clear cc ho
      go_wp2_with fail
      refine Calls.mono HC.out ?_
      rintro e w2 ⟨rfl, m, rfl⟩
      go_wp2
      go_roundw
      case rel => exact ⟨⟨n + m, by rfl⟩, k + 8, if c - k = 8 then off + k else off + k + 8, hlt, by split <;> omega, by split <;> exact slice_eq rfl (by omega) (by omega), by rw [HE.out, Crc.fe_append]; rfl⟩
      case measure => simp [sliceLen]; omega
    · have HG : Hid (Crc.go (Crc.nt (Crc.fe (Crc.nt s) (l.take k))) (l.drop k) = Crc.go s l) := by
        show Crc.go (Crc.nt (Crc.fe (Crc.nt s) (l.take k))) (l.drop k) = Crc.go s l
        rw [Crc.go, Crc.nt_nt hst, ← Crc.fe_append, List.take_append_drop]; rfl
      have hro : Row w' b o (l.drop k) := by
        by_cases hz : k < l.length
        · rw [ho hz]; exact row_drop hr k
        · intro j hj; rw [List.length_drop] at hj; omega
      have HC : Hid _ := byTable_row B _ b o (c - k) (l.drop k) (w'.drewN n) (Crc.nt_lt (Crc.fe (Crc.nt s) (l.take k))) (HT.out.drewN n) (byt_drop hb k) (by rw [List.length_drop]; omega) (hro.drewN n)
      clear ho hro
      rw [List.length_drop] at HC
      go_wp2_with fail
      rw [bnot hst]
      refine Calls.mono HC.out ?_
      rintro e w2 ⟨rfl, rfl⟩
      go_wp2
      go_ret
      exact ⟨ret_int (congrArg _ HG.out), n, rfl⟩
theorem byEight_is (B s : Nat) (v : Value) (l : List Nat) (w : World) (hs : s < 4294967296) (hT : Tab w B) (h : IsB w v l) :
    Calls Try.prog 74 #[.pointer (some ⟨B, 0, none⟩), .int .u32 (s : Int), v] w fun e w' => e = .returned (.int .u32 ((Crc.go s l : Nat) : Int)) ∧ ∃ n, w' = w.drewN n := by
  obtain ⟨hb, hm, ⟨rfl, a, c, rfl⟩ | ⟨b, off, c, rfl, hc, hcm, _, hr⟩⟩ := h
  · exact byEight_nil B s a c w hs hT
  · exact byEight_row B s b off c l w hs hT hb hc hcm hr
end Go.Proofs.Ytifjjoobbegpoaa
namespace Go.Proofs.Ytifjjoobbegpoaa
open Go.RowKit

def zc : Array Value := Array.replicate 2048 (.int .u32 0)
theorem zero_tab (w : World) : (zeroValue 147).run Try.prog w = .ok (.agg zc) w := by kernel_rfl
/-- The block N of w' has 2048 cells of uint32, of which the first K are as the tables have them. -/
def Made (w' : World) (N K : Nat) : Prop := (∀ j, j < 2048 → ∃ x : Nat, w'.cell? ⟨N, j, none⟩ = some (.int .u32 (x : Int)) ∧ (j < K → x = Crc.tb (j / 256) (j % 256))) ∧ ∀ j, w'.frozen? ⟨N, j, none⟩ = false
theorem Made.tab {w : World} {N : Nat} (h : Made w N 2048) : Tab w N := by
  intro k b hk hb
  obtain ⟨x, hx, he⟩ := h.1 (k * 256 + b) (by omega)
  rw [hx, he (by omega), show (k * 256 + b) / 256 = k by omega, show (k * 256 + b) % 256 = b by omega]
theorem Made.set {w : World} {N K : Nat} (h : Made w N K) (hK : K < 2048) {x : Nat} (hx : x = Crc.tb (K / 256) (K % 256)) : Made (w.setCell ⟨N, K, none⟩ (.int .u32 (x : Int))) N (K + 1) := by
  refine ⟨fun j hj => ?_, fun j => by rw [World.frozen?_setCell]; exact h.2 j⟩
  obtain ⟨y, hy, he⟩ := h.1 j hj
  by_cases e : j = K
  · subst e
    exact ⟨x, World.cell?_setCell_same _ _ _ hy, fun _ => hx⟩
  · refine ⟨y, ?_, fun hlt => he (by omega)⟩
    rw [World.cell?_setCell_other _ _ _ _ (by intro h; injection h; omega)]; exact hy
theorem Made.drewN {w : World} {N K : Nat} (h : Made w N K) (n : Nat) : Made (w.drewN n) N K := h
theorem Made.drew {w : World} {N K : Nat} (h : Made w N K) : Made w.drew N K := h
theorem made_start (w : World) : Made (w.alloc (.cells zc 147)) w.heap.size 0 := by
  refine ⟨fun j hj => ⟨0, ?_, fun h => by omega⟩, fun j => ?_⟩
  · rw [World.cell?_alloc_new]; simp [zc, hj]
  · rw [World.frozen?_alloc_new]
set_option maxRecDepth 100000 in
set_option maxHeartbeats 400000 in
theorem new_any (w : World) :
    Calls Try.prog 73 #[] w fun e w' => e = .returned (.pointer (some ⟨w.heap.size, 0, none⟩)) ∧ Tab w' w.heap.size ∧ Below w.heap.size w w' := by
  have hz := zero_tab
  have HM : Hid _ := made_start w
  have HB : Hid (Below w.heap.size w (w.alloc (.cells zc 147))) := (Below.refl _ _).alloc (Nat.le_refl _) _
  go_enter Try.func73, Try.ntmps73
  go_wp2_with fail
  go_loopw [8] (fun i wr => ∃ k : Nat, k ≤ 256 ∧ i = .int .i64 k ∧ Made wr w.heap.size k ∧ Below w.heap.size w wr) (fun i _ => 256 - (intOf i).toNat)
  case atStart => exact ⟨0, Nat.zero_le _, rfl, HM.out, HB.out⟩
  case round =>
    obtain ⟨k, hk, rfl, hM, hB⟩ := hrel
    by_cases hlt : k < 256
    · obtain ⟨x, hx, _⟩ := hM.1 k (by omega)
      have hf := hM.2 k
      have HM2 : Hid (Made wr w.heap.size k) := hM
      have HB2 : Hid (Below w.heap.size w wr) := hB
      have hwk := u8_u32 k hlt
      clear hM hB HM HB hz
      go_wp2_with fail
      go_region_with (go_at_call 88; refine (moveByte_any _ _ (by omega)).mono ?_; rintro e w' ⟨rfl, rfl⟩)
      go_wp2
      go_roundw
      case rel => exact ⟨k + 1, by omega, by go_num, (HM2.out.set (by omega) (by rw [Nat.div_eq_of_lt hlt, Nat.mod_eq_of_lt hlt]; rfl)).drew, (HB2.out.setCell (p := ⟨w.heap.size, _, none⟩) (Nat.le_refl _) _).drew⟩
      case measure => simp [intOf]; omega
    · obtain rfl : k = 256 := by omega
      clear HM HB hz
      have HM2 : Hid (Made wr w.heap.size (1 * 256)) := hM
      have HB2 : Hid (Below w.heap.size w wr) := hB
      clear hM hB
      go_wp2
      obtain ⟨w1, rfl⟩ : ∃ w1 : World, w1 = wr := ⟨_, rfl⟩
      go_loopw [3] (fun i wr => ∃ k : Nat, 1 ≤ k ∧ k ≤ 8 ∧ i = .int .i64 k ∧ Made wr w.heap.size (k * 256) ∧ Below w.heap.size w wr) (fun i _ => 8 - (intOf i).toNat)
      case atStart => exact ⟨1, by omega, by omega, rfl, HM2.out, HB2.out⟩
      case round =>
        obtain ⟨k, h1, hk, rfl, hM, hB⟩ := hrel
        by_cases hlt : k < 8
        · have hd : decide ((k : Int) < 8) = true := by simp; omega
          have HM2 : Hid (Made wr w.heap.size (k * 256)) := hM
          have HB2 : Hid (Below w.heap.size w wr) := hB
          clear hM hB
          go_wp2
          obtain ⟨w2, rfl⟩ : ∃ w2 : World, w2 = wr := ⟨_, rfl⟩
          go_loopw [25] (fun i wr => ∃ b : Nat, b ≤ 256 ∧ i = .int .i64 b ∧ Made wr w.heap.size (k * 256 + b) ∧ Below w.heap.size w wr) (fun i _ => 256 - (intOf i).toNat)
          case atStart => exact ⟨0, by omega, rfl, HM2.out, HB2.out⟩
          case round =>
            obtain ⟨b, hb, rfl, hM, hB⟩ := hrel
            by_cases hlt2 : b < 256
            · obtain ⟨x, hx, hxe⟩ := hM.1 ((k - 1) * 256 + b) (by omega)
              have ex := hxe (by omega)
              rw [show ((k - 1) * 256 + b) / 256 = k - 1 by omega, show ((k - 1) * 256 + b) % 256 = b by omega] at ex
              have lx : x < 4294967296 := by rw [ex]; exact Crc.tb_lt _ hlt2
              have HE : Hid (Crc.tb k b = Crc.tb 0 (x % 256) ^^^ x / 256) := by
                have := Crc.tb_succ (k - 1) b
                rw [Nat.sub_add_cancel h1, ← ex] at this; exact this
              obtain ⟨j, hj⟩ : ∃ j, j = x % 256 := ⟨_, rfl⟩
              have lj : j < 256 := by omega
              have ej : (x : Int) % 256 = (j : Int) := by omega
              obtain ⟨y, hy, hye⟩ := hM.1 j (by omega)
              have ey := hye (by omega)
              rw [Nat.div_eq_of_lt lj, Nat.mod_eq_of_lt lj] at ey
              have ly : y < 4294967296 := by rw [ey]; exact Crc.tb_lt _ lj
              obtain ⟨z, hz, _⟩ := hM.1 (k * 256 + b) (by omega)
              have hf := hM.2 (k * 256 + b)
              rw [← hj, ← ey] at HE
              have HM3 : Hid (Made wr w.heap.size (k * 256 + b)) := hM
              have HB3 : Hid (Below w.heap.size w wr) := hB
              have HV : Hid (bits .xor .u32 (y : Int) ((x : Int) / 256) = ((Crc.tb k b : Nat) : Int)) := by
                show bits .xor .u32 (y : Int) ((x : Int) / 256) = ((Crc.tb k b : Nat) : Int)
                rw [HE.out, ← bxor ly (by omega)]; rfl
              clear hM hB HM2 HB2 hxe hye ex ey hj
              go_wp2
              go_region
              go_wp2
              go_roundw
              case rel => exact ⟨b + 1, by omega, by go_num, by rw [HV.out]; exact (HM3.out.set (by omega) (by rw [show (k * 256 + b) / 256 = k by omega, show (k * 256 + b) % 256 = b by omega])).drew, (HB3.out.setCell (p := ⟨w.heap.size, _, none⟩) (Nat.le_refl _) _).drew⟩
              case measure => simp [intOf]; omega
            · obtain rfl : b = 256 := by omega
              have HM3 : Hid (Made wr w.heap.size ((k + 1) * 256)) := by
                show Made wr w.heap.size ((k + 1) * 256)
                rw [Nat.add_mul]; exact hM
              have HB3 : Hid (Below w.heap.size w wr) := hB
              clear hM hB HM2 HB2
              go_wp2
              go_roundw
              case rel => exact ⟨k + 1, by omega, by omega, by go_num, HM3.out, HB3.out⟩
              case measure => simp [intOf]; omega
        · obtain rfl : k = 8 := by omega
          have HM3 : Hid (Made wr w.heap.size 2048) := hM
          have HB3 : Hid (Below w.heap.size w wr) := hB
          clear hM hB HM2 HB2
          go_wp2
          go_ret
          exact ⟨rfl, HM3.out.tab, HB3.out⟩
end Go.Proofs.Ytifjjoobbegpoaa
namespace Go.Proofs.Ytifjjoobbegpoaa
open Go.RowKit

theorem IsB.drewN {w : World} {v : Value} {l : List Nat} (h : IsB w v l) (n : Nat) : IsB (w.drewN n) v l := h
theorem IsB.shape {w : World} {v : Value} {l : List Nat} (h : IsB w v l) : ∃ a c, v = .slice a l.length c := by
  obtain ⟨_, _, ⟨rfl, a, c, rfl⟩ | ⟨b, off, c, rfl, _⟩⟩ := h
  · exact ⟨a, c, rfl⟩
  · exact ⟨_, c, rfl⟩
theorem IsB.below {w w' : World} {v : Value} {l : List Nat} (h : IsB w v l) (hb : Below w.heap.size w w') : IsB w' v l := by
  obtain ⟨h1, h2, ⟨rfl, a, c, rfl⟩ | ⟨b, off, c, rfl, h3, h4, h5, h6⟩⟩ := h
  · exact ⟨h1, h2, .inl ⟨rfl, a, c, rfl⟩⟩
  · refine ⟨h1, h2, .inr ⟨b, off, c, rfl, h3, h4, Nat.lt_of_lt_of_le h5 hb.size, fun k hk => ?_⟩⟩
    rw [hb.cell h5]; exact h6 k hk
/-- The parts: a slice of slices of bytes. -/
def IsPs (w : World) (b off : Nat) (ls : List (List Nat)) : Prop := ∀ i, i < ls.length → ∃ v, w.cell? ⟨b, off + i, none⟩ = some v ∧ IsB w v (ls.getD i [])
def IsP (w : World) (v : Value) (ls : List (List Nat)) : Prop :=
  ls.length ≤ maxLen ∧ ((ls = [] ∧ ∃ a c, v = .slice a 0 c) ∨ ∃ b off c, v = .slice (some ⟨b, off, none⟩) ls.length c ∧ b < w.heap.size ∧ IsPs w b off ls)
theorem byt_flatten {w : World} {b off : Nat} {ls : List (List Nat)} (h : IsPs w b off ls) (k : Nat) : Crc.Byt (ls.take k).flatten := by
  intro x hx
  obtain ⟨l, hl, hxl⟩ := List.mem_flatten.1 hx
  obtain ⟨i, hi, he⟩ := List.getElem_of_mem (List.mem_of_mem_take hl)
  obtain ⟨v, _, hB⟩ := h i hi
  rw [List.getD_eq_getElem?_getD, List.getElem?_eq_getElem hi, he] at hB
  exact hB.1 x hxl
theorem takes_succ {ls : List (List Nat)} {k : Nat} (h : k < ls.length) : (ls.take (k + 1)).flatten = (ls.take k).flatten ++ ls.getD k [] := by
  rw [List.take_succ_eq_append_getElem h, List.getD_eq_getElem?_getD, List.getElem?_eq_getElem h, List.flatten_append]; simp
set_option maxRecDepth 100000 in
set_option maxHeartbeats 400000 in
theorem sumWith_bitwise (b off c : Nat) (ls : List (List Nat)) (w : World) (hm : ls.length ≤ maxLen) (hP : IsPs w b off ls) :
    Calls Try.prog 71 #[.func (.func 72) #[] #[], .slice (some ⟨b, off, none⟩) ls.length c] w fun e w' => e = .returned (.int .u32 ((Crc.go 0 ls.flatten : Nat) : Int)) ∧ ∃ n, w' = w.drewN n := by
  unfold maxLen at hm
  have HP : Hid (IsPs w b off ls) := hP
  clear hP
  go_enter Try.func71, Try.ntmps71
  go_wp2
  go_loopw [5, 10] (fun t i wr => (∃ n, wr = w.drewN n) ∧ ∃ k : Nat, k ≤ ls.length ∧ i = .int .i64 k ∧ t = .int .u32 ((Crc.go 0 (ls.take k).flatten : Nat) : Int)) (fun _ i _ => ls.length - (intOf i).toNat)
  case atStart => exact ⟨⟨0, rfl⟩, 0, Nat.zero_le _, rfl, by rw [List.take_zero, List.flatten_nil, Crc.go_nil (by omega)]; rfl⟩
  case round =>
    obtain ⟨⟨n, rfl⟩, k, hk, rfl, rfl⟩ := hrel
    by_cases hlt : k < ls.length
    · obtain ⟨v, hv, hB⟩ := HP.out k hlt
      have HE : Hid (Crc.go (Crc.go 0 (ls.take k).flatten) (ls.getD k []) = Crc.go 0 (ls.take (k + 1)).flatten) := by
        show Crc.go (Crc.go 0 (ls.take k).flatten) (ls.getD k []) = Crc.go 0 (ls.take (k + 1)).flatten
        rw [takes_succ hlt, Crc.go_append _ (byt_flatten HP.out k)]
      generalize ls.getD k [] = l at *
      have HC : Hid _ := bitwise_is _ v _ (w.drewN n) (Crc.go_lt 0 (ls.take k).flatten) (hB.drewN n)
      obtain ⟨a, c', e⟩ := hB.shape
      rw [e] at hv HC
      clear hB e
      go_wp2_with fail
      refine Calls.mono HC.out ?_
      rintro e w2 ⟨rfl, rfl⟩
      go_wp2
      go_roundw
      case rel => exact ⟨⟨n, by rfl⟩, k + 1, hlt, by go_num, by rw [HE.out]⟩
      case measure => simp [intOf]; omega
    · obtain rfl : k = ls.length := by omega
      go_wp2
      go_ret
      exact ⟨ret_int (by rw [List.take_length]), n, rfl⟩
set_option maxRecDepth 100000 in
set_option maxHeartbeats 400000 in
theorem sumWith_byEight (B : Nat) (b off c : Nat) (ls : List (List Nat)) (w : World) (hm : ls.length ≤ maxLen) (hP : IsPs w b off ls) (hT : Tab w B) :
    Calls Try.prog 71 #[.func (.func 74) #[.pointer (some ⟨B, 0, none⟩)] #[], .slice (some ⟨b, off, none⟩) ls.length c] w fun e w' => e = .returned (.int .u32 ((Crc.go 0 ls.flatten : Nat) : Int)) ∧ ∃ n, w' = w.drewN n := by
  unfold maxLen at hm
  have HP : Hid (IsPs w b off ls) := hP
  clear hP
  have HT : Hid (Tab w B) := hT
  clear hT
  go_enter Try.func71, Try.ntmps71
  go_wp2
  go_loopw [5, 10] (fun t i wr => (∃ n, wr = w.drewN n) ∧ ∃ k : Nat, k ≤ ls.length ∧ i = .int .i64 k ∧ t = .int .u32 ((Crc.go 0 (ls.take k).flatten : Nat) : Int)) (fun _ i _ => ls.length - (intOf i).toNat)
  case atStart => exact ⟨⟨0, rfl⟩, 0, Nat.zero_le _, rfl, by rw [List.take_zero, List.flatten_nil, Crc.go_nil (by omega)]; rfl⟩
  case round =>
    obtain ⟨⟨n, rfl⟩, k, hk, rfl, rfl⟩ := hrel
    by_cases hlt : k < ls.length
    · obtain ⟨v, hv, hB⟩ := HP.out k hlt
      have HE : Hid (Crc.go (Crc.go 0 (ls.take k).flatten) (ls.getD k []) = Crc.go 0 (ls.take (k + 1)).flatten) := by
        show Crc.go (Crc.go 0 (ls.take k).flatten) (ls.getD k []) = Crc.go 0 (ls.take (k + 1)).flatten
        rw [takes_succ hlt, Crc.go_append _ (byt_flatten HP.out k)]
      generalize ls.getD k [] = l at *
      have HC : Hid _ := byEight_is B _ v _ (w.drewN n) (Crc.go_lt 0 (ls.take k).flatten) (HT.out.drewN n) (hB.drewN n)
      obtain ⟨a, c', e⟩ := hB.shape
      rw [e] at hv HC
      clear hB e
      go_wp2_with fail
      refine Calls.mono HC.out ?_
      rintro e w2 ⟨rfl, m, rfl⟩
      go_wp2
      go_roundw
      case rel => exact ⟨⟨n + m, by rfl⟩, k + 1, hlt, by go_num, by rw [HE.out]⟩
      case measure => simp [intOf]; omega
    · obtain rfl : k = ls.length := by omega
      go_wp2
      go_ret
      exact ⟨ret_int (by rw [List.take_length]), n, rfl⟩
end Go.Proofs.Ytifjjoobbegpoaa
namespace Go.Proofs.Ytifjjoobbegpoaa
open Go.RowKit

theorem below_drewN {B : Nat} {a w : World} (h : Below B a w) (n : Nat) : Below B a (w.drewN n) := ⟨h.os, h.tape, h.output, h.size, h.block⟩
theorem IsPs.below {w w' : World} {b off : Nat} {ls : List (List Nat)} (h : IsPs w b off ls) (hb : b < w.heap.size) (hB : Below w.heap.size w w') : IsPs w' b off ls := by
  intro i hi
  obtain ⟨v, hv, hI⟩ := h i hi
  exact ⟨v, by rw [hB.cell hb]; exact hv, hI.below hB⟩
theorem IsP.below {w w' : World} {v : Value} {ls : List (List Nat)} (h : IsP w v ls) (hB : Below w.heap.size w w') : IsP w' v ls := by
  obtain ⟨h1, ⟨rfl, a, c, rfl⟩ | ⟨b, off, c, rfl, h3, h4⟩⟩ := h
  · exact ⟨h1, .inl ⟨rfl, a, c, rfl⟩⟩
  · exact ⟨h1, .inr ⟨b, off, c, rfl, Nat.lt_of_lt_of_le h3 hB.size, h4.below h3 hB⟩⟩
set_option maxRecDepth 100000 in
set_option maxHeartbeats 400000 in
theorem sumWith_nil (a : Option Addr) (c : Nat) (fv : Value) (w : World) :
    Calls Try.prog 71 #[fv, .slice a 0 c] w fun e w' => e = .returned (.int .u32 0) ∧ w' = w := by
  go_enter Try.func71, Try.ntmps71
  go_wp2
  go_loop [5, 10] (fun t i => i = .int .i64 0 ∧ t = .int .u32 0) (fun _ _ => 0)
  case atStart => exact ⟨rfl, rfl⟩
  case round =>
    obtain ⟨rfl, rfl⟩ := hrel
    go_wp2
    go_ret
    exact ⟨rfl, rfl⟩
set_option maxRecDepth 100000 in
set_option maxHeartbeats 400000 in
theorem sum_nil (a : Option Addr) (c : Nat) (w : World) :
    Calls Try.prog 59 #[.slice a 0 c] w fun e w' => e = .returned (.int .u32 0) ∧ w' = w := by
  go_enter Try.func59, Try.ntmps59
  go_wp2
  go_loop [3, 8] (fun t i => i = .int .i64 0 ∧ t = .int .i64 0) (fun _ _ => 0)
  case atStart => exact ⟨rfl, rfl⟩
  case round =>
    obtain ⟨rfl, rfl⟩ := hrel
    go_wp2_with (go_at_call 71; refine (sumWith_nil _ _ _ _).mono ?_; rintro e w' ⟨rfl, rfl⟩)
    go_ret
    exact ⟨rfl, rfl⟩
set_option maxRecDepth 100000 in
set_option maxHeartbeats 400000 in
theorem sum_row (b off c : Nat) (ls : List (List Nat)) (w : World) (hm0 : ls.length ≤ maxLen) (hb : b < w.heap.size) (hP : IsPs w b off ls) :
    Calls Try.prog 59 #[.slice (some ⟨b, off, none⟩) ls.length c] w fun e w' => e = .returned (.int .u32 ((Crc.go 0 ls.flatten : Nat) : Int)) ∧ Below w.heap.size w w' := by
  have hm := hm0
  unfold maxLen at hm
  have HP : Hid (IsPs w b off ls) := hP
  clear hP
  have HC1 : Hid _ := sumWith_bitwise b off c ls w hm0 HP.out
  have HC2 : Hid (∀ u : World, Below w.heap.size w u → Tab u w.heap.size → _) := fun u h1 h2 => sumWith_byEight w.heap.size b off c ls u hm0 (HP.out.below hb h1) h2
  go_enter Try.func59, Try.ntmps59
  go_wp2
  go_loop [3, 8] (fun t i => ∃ (k : Nat) (x : Int), k ≤ ls.length ∧ i = .int .i64 k ∧ t = .int .i64 x) (fun _ i => ls.length - (intOf i).toNat)
  case atStart => exact ⟨0, 0, Nat.zero_le _, rfl, rfl⟩
  case round =>
    obtain ⟨k, x, hk, rfl, rfl⟩ := hrel
    by_cases hlt : k < ls.length
    · obtain ⟨v, hv, hB⟩ := HP.out k hlt
      generalize ls.getD k [] = l at *
      obtain ⟨a, c', e⟩ := hB.shape
      rw [e] at hv
      clear hB e
      go_wp2
      go_round
      case rel => exact ⟨k + 1, _, hlt, by go_num, rfl⟩
      case measure => simp [intOf]; omega
    · obtain rfl : k = ls.length := by omega
      by_cases hx : x < 1024
      · go_wp2_with (go_at_call 71; refine Calls.mono HC1.out ?_; rintro e w' ⟨rfl, n, rfl⟩)
        go_ret
        exact ⟨rfl, below_drewN (Below.refl _ _) n⟩
      · go_wp2_with fail
        refine (new_any _).mono ?_
        rintro e w1 ⟨rfl, hT, hB⟩
        have HT : Hid (Tab w1 w.heap.size) := hT
        have HB : Hid (Below w.heap.size w w1) := hB
        clear hT hB
        go_wp2_with fail
        refine Calls.mono (HC2.out w1 HB.out HT.out) ?_
        rintro e w' ⟨rfl, n, rfl⟩
        go_wp2
        go_ret
        exact ⟨rfl, below_drewN HB.out n⟩
theorem sum_is (v : Value) (ls : List (List Nat)) (w : World) (h : IsP w v ls) :
    Calls Try.prog 59 #[v] w fun e w' => e = .returned (.int .u32 ((Crc.go 0 ls.flatten : Nat) : Int)) ∧ Below w.heap.size w w' := by
  obtain ⟨h1, ⟨rfl, a, c, rfl⟩ | ⟨b, off, c, rfl, h3, h4⟩⟩ := h
  · refine (sum_nil a c w).mono ?_
    rintro e w' ⟨rfl, rfl⟩
    exact ⟨ret_int (by rw [List.flatten_nil, Crc.go_nil (by omega)]; rfl), Below.refl _ _⟩
  · exact sum_row b off c ls w h1 h3 h4
end Go.Proofs.Ytifjjoobbegpoaa
namespace Go.Proofs.Ytifjjoobbegpoaa
open Go.RowKit
theorem IsB.take {w : World} {b off n c : Nat} {l : List Nat} (h : IsB w (.slice (some ⟨b, off, none⟩) n c) l) (k : Nat) (hk : k ≤ n) : IsB w (.slice (some ⟨b, off, none⟩) k c) (l.take k) := by
  obtain ⟨h1, h2, ⟨rfl, a, c', e⟩ | ⟨b', off', c', e, h3, h4, h5, h6⟩⟩ := h
  · injection e with e1 e2 e3
    obtain rfl : k = 0 := by omega
    exact ⟨by rw [List.take_nil]; exact h1, by simp, .inl ⟨by simp, _, _, rfl⟩⟩
  · injection e with e1 e2 e3
    injection e1 with e1
    injection e1 with e4 e5
    subst e2 e3 e4 e5
    have hl : (l.take k).length = k := by rw [List.length_take]; omega
    exact ⟨byt_take h1 k, by rw [hl]; omega, .inr ⟨_, _, _, by rw [hl], by rw [hl]; omega, h4, h5, row_take h6 k⟩⟩
theorem IsB.drop {w : World} {b off n c : Nat} {l : List Nat} (h : IsB w (.slice (some ⟨b, off, none⟩) n c) l) (k : Nat) (hk : k ≤ n) (o m d : Nat) (ho : k < n → o = off + k) (hm : m = n - k) (hd : d = c - k) : IsB w (.slice (some ⟨b, o, none⟩) m d) (l.drop k) := by
  obtain ⟨h1, h2, ⟨rfl, a, c', e⟩ | ⟨b', off', c', e, h3, h4, h5, h6⟩⟩ := h
  · injection e with e1 e2 e3
    obtain rfl : k = 0 := by omega
    subst hm e2
    exact ⟨by rw [List.drop_nil]; exact h1, by simp, .inl ⟨by simp, _, _, rfl⟩⟩
  · injection e with e1 e2 e3
    injection e1 with e1
    injection e1 with e4 e5
    subst e2 e3 e4 e5
    have hl : (l.drop k).length = m := by rw [List.length_drop]; omega
    refine ⟨byt_drop h1 k, by rw [hl]; omega, .inr ⟨_, _, _, by rw [hl], by rw [hl]; omega, by omega, h5, ?_⟩⟩
    by_cases hlt : k < l.length
    · rw [ho hlt]; exact row_drop h6 k
    · intro j hj; rw [hl] at hj; omega
theorem isB_nil (w : World) : IsB w (.slice none 0 0) [] := ⟨by intro x hx; simp at hx, by simp, .inl ⟨rfl, _, _, rfl⟩⟩
theorem cell_new (U : World) (C : Array Value) (t : TypeId) (N i : Nat) (hN : N = U.heap.size) : (U.alloc (.cells C t)).cell? ⟨N, 0 + i, none⟩ = C[i]? := by
  subst hN; rw [Nat.zero_add, World.cell?_alloc_new]
theorem below_alloc {U w' : World} (o : Obj) (h : Below (U.alloc o).heap.size (U.alloc o) w') : Below U.heap.size U w' := by
  have : U.heap.size ≤ (U.alloc o).heap.size := by simp
  exact ((Below.refl _ _).alloc (Nat.le_refl _) o).trans (h.mono this)
theorem sum_one (U : World) (N : Nat) (hN : N = U.heap.size) (v0 : Value) (l0 : List Nat) (h0 : IsB U v0 l0) :
    Calls Try.prog 59 #[.slice (some ⟨N, 0, none⟩) 1 1] (U.alloc (.cells #[v0] 22)) fun e w' => e = .returned (.int .u32 ((Crc.go 0 l0 : Nat) : Int)) ∧ Below U.heap.size U w' := by
  have hb : Below U.heap.size U (U.alloc (.cells #[v0] 22)) := (Below.refl _ _).alloc (Nat.le_refl _) _
  refine (sum_row N 0 1 [l0] _ (by simp [maxLen]) (by subst hN; simp) ?_).mono ?_
  · intro i hi
    rw [cell_new U _ _ N i hN]
    match i, hi with
    | 0, _ => exact ⟨v0, rfl, h0.below hb⟩
  · rintro e w' ⟨rfl, h⟩
    exact ⟨by simp, below_alloc _ h⟩
theorem sum_two (U : World) (N : Nat) (hN : N = U.heap.size) (v0 v1 : Value) (l0 l1 : List Nat) (h0 : IsB U v0 l0) (h1 : IsB U v1 l1) :
    Calls Try.prog 59 #[.slice (some ⟨N, 0, none⟩) 2 2] (U.alloc (.cells #[v0, v1] 22)) fun e w' => e = .returned (.int .u32 ((Crc.go 0 (l0 ++ l1) : Nat) : Int)) ∧ Below U.heap.size U w' := by
  have hb : Below U.heap.size U (U.alloc (.cells #[v0, v1] 22)) := (Below.refl _ _).alloc (Nat.le_refl _) _
  refine (sum_row N 0 2 [l0, l1] _ (by simp [maxLen]) (by subst hN; simp) ?_).mono ?_
  · intro i hi
    rw [cell_new U _ _ N i hN]
    match i, hi with
    | 0, _ => exact ⟨v0, rfl, h0.below hb⟩
    | 1, _ => exact ⟨v1, rfl, h1.below hb⟩
  · rintro e w' ⟨rfl, h⟩
    exact ⟨by simp, below_alloc _ h⟩
theorem sum_three (U : World) (N : Nat) (hN : N = U.heap.size) (v0 v1 v2 : Value) (l0 l1 l2 : List Nat) (h0 : IsB U v0 l0) (h1 : IsB U v1 l1) (h2 : IsB U v2 l2) :
    Calls Try.prog 59 #[.slice (some ⟨N, 0, none⟩) 3 3] (U.alloc (.cells #[v0, v1, v2] 22)) fun e w' => e = .returned (.int .u32 ((Crc.go 0 (l0 ++ (l1 ++ l2)) : Nat) : Int)) ∧ Below U.heap.size U w' := by
  have hb : Below U.heap.size U (U.alloc (.cells #[v0, v1, v2] 22)) := (Below.refl _ _).alloc (Nat.le_refl _) _
  refine (sum_row N 0 3 [l0, l1, l2] _ (by simp [maxLen]) (by subst hN; simp) ?_).mono ?_
  · intro i hi
    rw [cell_new U _ _ N i hN]
    match i, hi with
    | 0, _ => exact ⟨v0, rfl, h0.below hb⟩
    | 1, _ => exact ⟨v1, rfl, h1.below hb⟩
    | 2, _ => exact ⟨v2, rfl, h2.below hb⟩
  · rintro e w' ⟨rfl, h⟩
    exact ⟨by simp, below_alloc _ h⟩
end Go.Proofs.Ytifjjoobbegpoaa
