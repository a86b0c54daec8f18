/-
  WHAT THE LAWS' PROOFS SHARE: a slice of bytes that came in reads as a list of numbers below 256; Forge's answer as such a slice.
-/
import Derived.Test.YtfodnbbpkonfpabK1
import Derived.ProofKit
import Derived.OpenShut
import Derived.ShutString
import Derived.ChangeOld
namespace Go.Proofs.Ytfodnbbpkonfpab
open Go.ChangeShapes Go.WideShapes Go.ChangeAt Go.RowKit

theorem hd {p : Prop} (h : p) : Hid p := h
theorem own : ownKnob Try.prog.godebug = none := by kernel_rfl
theorem laidOut : laidOutB Try.prog = true := by kernel_rfl

/-- What a walk is told of a slice of integers that came in: it is nil; or it leads to a row of 'cap' cells, the numbers 'zs' (the first 'len' are its elements), each fitting its kind. -/
def IsRow (k : IntKind) (w : World) (a : Option Addr) (len cap : Nat) (zs : List Int) : Prop :=
  (a = none ∧ len = 0 ∧ cap = 0 ∧ zs = []) ∨
  ∃ x, a = some x ∧ len ≤ cap ∧ cap ≤ maxLen ∧ zs.length = cap ∧ (∀ i, i < zs.length → w.cell? (x.add i) = some (.int k (zs.getD i 0))) ∧ ∀ n ∈ zs, (Lit.int k n).wf = true
theorem wf_u8 {n : Int} (h : (Lit.int .u8 n).wf = true) : 0 ≤ n ∧ n < 256 := by
  have := bounds_u8 h; omega
theorem wf_u32 {n : Int} (h : (Lit.int .u32 n).wf = true) : ∃ m : Nat, n = (m : Int) ∧ m < 4294967296 := by
  have := bounds_u32 h
  exact ⟨n.toNat, by omega, by omega⟩
theorem lt_of_cell {w : World} {p : Addr} {v : Value} (h : w.cell? p = some v) : p.block < w.heap.size := by
  rcases Nat.lt_or_ge p.block w.heap.size with h' | h'
  · exact h'
  · simp [World.cell?, Array.getElem?_eq_none h'] at h
theorem IsRow.isB {w : World} {a : Option Addr} {len cap : Nat} {zs : List Int} (h : IsRow .u8 w a len cap zs) : ∃ l : List Nat, l.length = len ∧ IsB w (.slice a len cap) l := by
  rcases h with ⟨rfl, rfl, rfl, rfl⟩ | ⟨x, rfl, hl, hm, hz, hcell, hwz⟩
  · exact ⟨[], rfl, isB_nil w⟩
  · have hlen : ((zs.take len).map Int.toNat).length = len := by rw [List.length_map, List.length_take]; omega
    have hb : Crc.Byt ((zs.take len).map Int.toNat) := by
      intro n hn
      obtain ⟨z, hz1, rfl⟩ := List.mem_map.1 hn
      have := wf_u8 (hwz z (List.mem_of_mem_take hz1))
      omega
    refine ⟨(zs.take len).map Int.toNat, hlen, hb, by rw [hlen]; omega, ?_⟩
    by_cases h0 : len = 0
    · subst h0
      exact .inl ⟨by simp, _, _, rfl⟩
    · obtain ⟨b, off, spot⟩ := x
      have hc := hcell 0 (by omega)
      have hspot : spot = none := by simpa [Addr.add] using World.cell?_spot hc
      subst hspot
      have hbl : b < w.heap.size := lt_of_cell hc
      refine .inr ⟨b, off, cap, by rw [hlen], by rw [hlen]; omega, hm, hbl, ?_⟩
      intro k hk
      rw [hlen] at hk
      have hck := hcell k (by omega)
      have hg : zs[k]? = some (zs.getD k 0) := by rw [List.getD_eq_getElem?_getD, List.getElem?_eq_getElem (by omega)]; rfl
      have hw := wf_u8 (hwz (zs.getD k 0) (List.mem_of_getElem? hg))
      have he : (((zs.take len).map Int.toNat).getD k 0 : Nat) = (zs.getD k 0).toNat := by
        rw [List.getD_eq_getElem?_getD, List.getElem?_map, List.getElem?_take_of_lt hk, hg]; rfl
      rw [he, show (((zs.getD k 0).toNat : Nat) : Int) = zs.getD k 0 by omega]
      have hA : Addr.add ⟨b, off, none⟩ k = ⟨b, off + k, none⟩ := by
        unfold Addr.add; split
        · subst_vars; rfl
        · rfl
      rw [hA] at hck
      exact hck
theorem cs_row (w : World) (l : List Nat) (t : TypeId) : Row (w.alloc (.cells (cs l) t)) w.heap.size 0 l := by
  intro k hk
  rw [Nat.zero_add, World.cell?_alloc_new, List.getD_eq_getElem?_getD, List.getElem?_eq_getElem hk]
  simp [cs, hk]
theorem forge_is (s t : Nat) (w : World) (hs : s < 4294967296) (ht : t < 4294967296) :
    Calls Try.prog 14 #[.int .u32 (s : Int), .int .u32 (t : Int)] w fun e w' => e = .returned (.slice (some ⟨w.heap.size, 0, none⟩) 4 4) ∧ IsB w' (.slice (some ⟨w.heap.size, 0, none⟩) 4 4) (Crc.by4 (Crc.fg s t)) ∧ Below w.heap.size w w' := by
  refine (forge_any s t w hs ht).mono ?_
  rintro e w' ⟨rfl, rfl⟩
  exact ⟨rfl, ⟨Crc.by4_byt _, by simp [Crc.by4, maxLen], .inr ⟨_, 0, 4, rfl, by simp [Crc.by4], by simp [maxLen], by simp, cs_row w _ _⟩⟩, (Below.refl _ _).alloc (Nat.le_refl _) _⟩
theorem IsB.row {w : World} {b off n c : Nat} {l : List Nat} (h : IsB w (.slice (some ⟨b, off, none⟩) n c) l) : Row w b off l := by
  obtain ⟨h1, h2, ⟨rfl, a, c', e⟩ | ⟨b', off', c', e, h3, h4, h5, h6⟩⟩ := h
  · intro k hk; simp at hk
  · injection e with e1 e2 e3
    injection e1 with e1
    injection e1 with e4 e5
    subst e2 e3 e4 e5
    exact h6
theorem five {f g : Nat} {x y : Int} (h : Crc.by4 f = Crc.by4 g ↔ x = y) :
    ((((((Crc.by4 f).getD 0 0 : Nat) : Int) == (((Crc.by4 g).getD 0 0 : Nat) : Int)) = true ∧ ((((Crc.by4 f).getD 1 0 : Nat) : Int) == (((Crc.by4 g).getD 1 0 : Nat) : Int)) = true ∧ ((((Crc.by4 f).getD 2 0 : Nat) : Int) == (((Crc.by4 g).getD 2 0 : Nat) : Int)) = true ∧ ((((Crc.by4 f).getD 3 0 : Nat) : Int) == (((Crc.by4 g).getD 3 0 : Nat) : Int)) = true ∧ (x == y) = true) ∨
    (((((Crc.by4 f).getD 0 0 : Nat) : Int) == (((Crc.by4 g).getD 0 0 : Nat) : Int)) = false ∧ (x == y) = false) ∨
    (((((Crc.by4 f).getD 0 0 : Nat) : Int) == (((Crc.by4 g).getD 0 0 : Nat) : Int)) = true ∧ ((((Crc.by4 f).getD 1 0 : Nat) : Int) == (((Crc.by4 g).getD 1 0 : Nat) : Int)) = false ∧ (x == y) = false) ∨
    (((((Crc.by4 f).getD 0 0 : Nat) : Int) == (((Crc.by4 g).getD 0 0 : Nat) : Int)) = true ∧ ((((Crc.by4 f).getD 1 0 : Nat) : Int) == (((Crc.by4 g).getD 1 0 : Nat) : Int)) = true ∧ ((((Crc.by4 f).getD 2 0 : Nat) : Int) == (((Crc.by4 g).getD 2 0 : Nat) : Int)) = false ∧ (x == y) = false) ∨
    (((((Crc.by4 f).getD 0 0 : Nat) : Int) == (((Crc.by4 g).getD 0 0 : Nat) : Int)) = true ∧ ((((Crc.by4 f).getD 1 0 : Nat) : Int) == (((Crc.by4 g).getD 1 0 : Nat) : Int)) = true ∧ ((((Crc.by4 f).getD 2 0 : Nat) : Int) == (((Crc.by4 g).getD 2 0 : Nat) : Int)) = true ∧ ((((Crc.by4 f).getD 3 0 : Nat) : Int) == (((Crc.by4 g).getD 3 0 : Nat) : Int)) = false ∧ (x == y) = false)) := by
  have e : (x == y) = decide (Crc.by4 f = Crc.by4 g) := by
    rw [Bool.eq_iff_iff]; simp [h]
  rw [e]
  simp only [Crc.by4, List.getD_cons_zero, List.getD_cons_succ]
  by_cases h0 : f % 256 = g % 256
  · by_cases h1 : f / 256 % 256 = g / 256 % 256
    · by_cases h2 : f / 65536 % 256 = g / 65536 % 256
      · by_cases h3 : f / 16777216 % 256 = g / 16777216 % 256
        · left; simp [h0, h1, h2, h3]
        · right; right; right; right; simp [h0, h1, h2, h3]; omega
      · right; right; right; left; simp [h0, h1, h2]; omega
    · right; right; left; simp [h0, h1]; omega
  · right; left; simp [h0]; omega
theorem Tab.below {w w' : World} {B n : Nat} (h : Tab w B) (hB : B < n) (hb : Below n w w') : Tab w' B := by
  intro k b hk hb'
  rw [hb.cell hB]; exact h k b hk hb'
theorem Tab.lt {w : World} {B : Nat} (h : Tab w B) : B < w.heap.size := lt_of_cell (h 0 0 (by omega) (by omega))
theorem bitwise_zero (v : Value) (l : List Nat) (w : World) (h : IsB w v l) :
    Calls Try.prog 11 #[.int .u32 0, v] w fun e w' => e = .returned (.int .u32 ((Crc.go 0 l : Nat) : Int)) ∧ w' = w := bitwise_is 0 v l w (by omega) h
theorem byTable_zero (B : Nat) (v : Value) (l : List Nat) (w : World) (hT : Tab w B) (h : IsB w v l) :
    Calls Try.prog 12 #[.pointer (some ⟨B, 0, none⟩), .int .u32 0, v] w fun e w' => e = .returned (.int .u32 ((Crc.go 0 l : Nat) : Int)) ∧ w' = w := byTable_is B 0 v l w (by omega) hT h
theorem byEight_zero (B : Nat) (v : Value) (l : List Nat) (w : World) (hT : Tab w B) (h : IsB w v l) :
    Calls Try.prog 13 #[.pointer (some ⟨B, 0, none⟩), .int .u32 0, v] w fun e w' => e = .returned (.int .u32 ((Crc.go 0 l : Nat) : Int)) ∧ ∃ n, w' = w.drewN n := byEight_is B 0 v l w (by omega) hT h
theorem sum_at (X : World) (N : Nat) (v : Value) (l : List Nat) (hc : X.cell? ⟨N, 0, none⟩ = some v) (hN : N < X.heap.size) (hI : IsB X v l) :
    Calls Try.prog 9 #[.slice (some ⟨N, 0, none⟩) 1 1] X fun e w' => e = .returned (.int .u32 ((Crc.go 0 l : Nat) : Int)) ∧ Below X.heap.size X w' := by
  refine (sum_row N 0 1 [l] X (by simp [maxLen]) hN ?_).mono ?_
  · intro i hi
    match i, hi with
    | 0, _ => exact ⟨v, hc, hI⟩
  · rintro e w' ⟨rfl, h⟩
    exact ⟨by simp, h⟩
theorem sum_at2 (X : World) (N : Nat) (v0 v1 : Value) (l0 l1 : List Nat) (hc0 : X.cell? ⟨N, 0, none⟩ = some v0) (hc1 : X.cell? ⟨N, 1, none⟩ = some v1) (hN : N < X.heap.size) (h0 : IsB X v0 l0) (h1 : IsB X v1 l1) :
    Calls Try.prog 9 #[.slice (some ⟨N, 0, none⟩) 2 2] X fun e w' => e = .returned (.int .u32 ((Crc.go 0 (l0 ++ l1) : Nat) : Int)) ∧ Below X.heap.size X w' := by
  refine (sum_row N 0 2 [l0, l1] X (by simp [maxLen]) hN ?_).mono ?_
  · intro i hi
    match i, hi with
    | 0, _ => exact ⟨v0, hc0, h0⟩
    | 1, _ => exact ⟨v1, hc1, h1⟩
  · rintro e w' ⟨rfl, h⟩
    exact ⟨by simp, h⟩
theorem isB_zero (w : World) (a : Option Addr) (c : Nat) : IsB w (.slice a 0 c) [] := ⟨by intro x hx; simp at hx, by simp, .inl ⟨rfl, _, _, rfl⟩⟩
theorem bcell {W w1 : World} (hb : Below W.heap.size W w1) : ∀ b o, b < W.heap.size → w1.cell? ⟨b, o, none⟩ = W.cell? ⟨b, o, none⟩ := fun b o h => hb.cell (p := ⟨b, o, none⟩) h
theorem IsB.dropIf {w : World} {b off n c : Nat} {l : List Nat} (h : IsB w (.slice (some ⟨b, off, none⟩) n c) l) (k : Nat) (hk : k ≤ n) (hn : n ≤ c) :
    IsB w (.slice (if c = k then some ⟨b, off, none⟩ else some ⟨b, off + k, none⟩) (n - k) (c - k)) (l.drop k) := by
  split
  · exact h.drop k hk off _ _ (by omega) rfl rfl
  · exact h.drop k hk (off + k) _ _ (fun _ => rfl) rfl rfl
end Go.Proofs.Ytfodnbbpkonfpab
