/-
  WHAT THE PROOFS ABOUT VARINTS SHARE: a slice of bytes or of 64-bit numbers that reads as a list; rows that the call itself has made; what came in as such a slice. No condition beyond those that each row bears.
  SMALL HELPS that the walks share: rows of the call's own that stay, literal slices, a byte put behind.
-/
import Derived.Test.YtolddolfpnkndaaGreatRows
import Derived.Test.YtolddolfpnkndaaGreatXtaa
import Derived.WalkKit
import Derived.WalkSpells
import Derived.WalkLawsBesides
import Derived.Laws.BitsAllLaws
import Derived.ProofKit
import Derived.OpenShut
import Derived.ShutString
import Derived.ChangeOld
import Derived.SizedLaws
import Derived.Deep.AppendLies
import Derived.Laws.OwnMore
import Derived.Deep.Onto
import Derived.Deep.QuietTactic
import Derived.BigQuiet
import Derived.Deep.RegionWith
import Derived.OwnWalk
namespace Go.Proofs.YtolddolfpnkndaaGreat
open Go.ChangeShapes Go.WideShapes Go.ChangeAt Go.RowKit
namespace Vt
theorem hd {p : Prop} (h : p) : Hid p := h
theorem own : ownKnob Tryz.prog.godebug = none := by kernel_rfl
theorem laidOut : laidOutB Tryz.prog = true := by kernel_rfl
theorem ret_int {k : IntKind} {a b : Int} (h : a = b) : Ending.returned (.int k a) = .returned (.int k b) := by rw [h]

/-- A row of numbers in memory. -/
def RowK (k : IntKind) (w : World) (b off : Nat) (l : List Nat) : Prop := ∀ i, i < l.length → w.cell? ⟨b, off + i, none⟩ = some (.int k ((l.getD i 0 : Nat) : Int))
/-- A slice value that reads as the numbers l, each below M. -/
def IsK (k : IntKind) (M : Nat) (w : World) (v : Value) (l : List Nat) : Prop :=
  (∀ x ∈ l, x < M) ∧ l.length ≤ maxLen ∧ ((l = [] ∧ ∃ a c, v = .slice a 0 c) ∨ ∃ b off c, v = .slice (some ⟨b, off, none⟩) l.length c ∧ l.length ≤ c ∧ c ≤ maxLen ∧ b < w.heap.size ∧ RowK k w b off l)
abbrev Row := RowK .u8
abbrev IsB := IsK .u8 256
abbrev IsN := IsK .u64 18446744073709551616
theorem lt_of_cell {w : World} {p : Addr} {v : Value} (h : w.cell? p = some v) : p.block < w.heap.size := by
  rcases Nat.lt_or_ge p.block w.heap.size with h' | h'
  · exact h'
  · simp [World.cell?, Array.getElem?_eq_none h'] at h
theorem add_at (b off k : Nat) : Addr.add ⟨b, off, none⟩ k = ⟨b, off + k, none⟩ := by
  unfold Addr.add; split
  · subst_vars; rfl
  · rfl
theorem IsK.drewN {k : IntKind} {M : Nat} {w : World} {v : Value} {l : List Nat} (h : IsK k M w v l) (n : Nat) : IsK k M (w.drewN n) v l := h
theorem IsK.shape {k : IntKind} {M : Nat} {w : World} {v : Value} {l : List Nat} (h : IsK k M w v l) : ∃ a c, v = .slice a l.length c := by
  obtain ⟨_, _, ⟨rfl, a, c, rfl⟩ | ⟨b, off, c, rfl, _⟩⟩ := h
  · exact ⟨a, c, rfl⟩
  · exact ⟨_, c, rfl⟩
theorem IsK.below {k : IntKind} {M : Nat} {w w' : World} {v : Value} {l : List Nat} (h : IsK k M w v l) (hb : Below w.heap.size w w') : IsK k M w' v l := by
  obtain ⟨h1, h2, ⟨rfl, a, c, rfl⟩ | ⟨b, off, c, rfl, h3, h4, h5, h6⟩⟩ := h
  · exact ⟨h1, h2, .inl ⟨rfl, a, c, rfl⟩⟩
  · refine ⟨h1, h2, .inr ⟨b, off, c, rfl, h3, h4, Nat.lt_of_lt_of_le h5 hb.size, fun k hk => ?_⟩⟩
    rw [hb.cell h5]; exact h6 k hk
theorem isK_nil (k : IntKind) (M : Nat) (w : World) (a : Option Addr) (c : Nat) : IsK k M w (.slice a 0 c) [] := ⟨by intro x hx; simp at hx, by simp, .inl ⟨rfl, _, _, rfl⟩⟩
theorem IsK.row {k : IntKind} {M : Nat} {w : World} {b off n c : Nat} {l : List Nat} (h : IsK k M w (.slice (some ⟨b, off, none⟩) n c) l) : RowK k w b off l := by
  obtain ⟨h1, h2, ⟨rfl, a, c', e⟩ | ⟨b', off', c', e, h3, h4, h5, h6⟩⟩ := h
  · intro k hk; simp at hk
  · injection e with e1 e2 e3
    injection e1 with e1
    injection e1 with e4 e5
    subst e2 e3 e4 e5
    exact h6
theorem IsK.take {k : IntKind} {M : Nat} {w : World} {a : Option Addr} {n c : Nat} {l : List Nat} (h : IsK k M w (.slice a n c) l) (m : Nat) (hm : m ≤ l.length) : IsK k M w (.slice a m c) (l.take m) := by
  obtain ⟨h1, h2, ⟨rfl, a', c', e⟩ | ⟨b', off', c', e, h3, h4, h5, h6⟩⟩ := h
  · obtain rfl : m = 0 := by simpa using hm
    rw [List.take_nil]; exact isK_nil _ _ _ _ _
  · injection e with e1 e2 e3
    subst e1 e2 e3
    have hl : (l.take m).length = m := by rw [List.length_take]; omega
    refine ⟨fun x hx => h1 x (List.mem_of_mem_take hx), by omega, .inr ⟨b', off', c, by rw [hl], by omega, h4, h5, fun j hj => ?_⟩⟩
    rw [hl] at hj
    rw [h6 j (by omega), List.getD_eq_getElem?_getD, List.getD_eq_getElem?_getD, List.getElem?_take_of_lt hj]
theorem IsK.drop {k : IntKind} {M : Nat} {w : World} {b off n c : Nat} {l : List Nat} (h : IsK k M w (.slice (some ⟨b, off, none⟩) n c) l) (m : Nat) (hm : m ≤ n) (o' n' c' : Nat) (ho : m < n → o' = off + m) (hn : n' = n - m) (hc : c' = c - m) : IsK k M w (.slice (some ⟨b, o', none⟩) n' c') (l.drop m) := by
  subst hn hc
  obtain ⟨h1, h2, ⟨rfl, a', c', e⟩ | ⟨b', off', c', e, h3, h4, h5, h6⟩⟩ := h
  · injection e with e1 e2 e3
    subst e2
    rw [List.drop_nil, Nat.zero_sub]; exact isK_nil _ _ _ _ _
  · injection e with e1 e2 e3
    injection e1 with e1
    injection e1 with e4 e5
    subst e2 e3 e4 e5
    have hl : (l.drop m).length = l.length - m := List.length_drop
    by_cases hlt : m < l.length
    · rw [ho hlt]
      refine ⟨fun x hx => h1 x (List.mem_of_mem_drop hx), by omega, .inr ⟨b, off + m, c - m, by rw [hl], by omega, by omega, h5, fun j hj => ?_⟩⟩
      rw [hl] at hj
      rw [Nat.add_assoc, h6 (m + j) (by omega), List.getD_eq_getElem?_getD, List.getD_eq_getElem?_getD, List.getElem?_drop]
    · have e : l.drop m = [] := List.drop_of_length_le (by omega)
      rw [e, show l.length - m = 0 by omega]; exact isK_nil _ _ _ _ _
theorem IsK.dropIf {k : IntKind} {M : Nat} {w : World} {b off n c : Nat} {l : List Nat} (h : IsK k M w (.slice (some ⟨b, off, none⟩) n c) l) (m : Nat) (hk : m ≤ n) (hn : n ≤ c) :
    IsK k M w (.slice (if c = m then some ⟨b, off, none⟩ else some ⟨b, off + m, none⟩) (n - m) (c - m)) (l.drop m) := by
  split
  · exact h.drop m hk off _ _ (by omega) rfl rfl
  · exact h.drop m hk (off + m) _ _ (fun _ => rfl) rfl rfl

/-- What a walk is told of a slice of integers that came in: it is nil; or it leads to a row of 'cap' cells, the numbers 'zs' (the first 'len' are its elements), each fitting its kind. -/
def IsRow (k : IntKind) (w : World) (a : Option Addr) (len cap : Nat) (zs : List Int) : Prop :=
  (a = none ∧ len = 0 ∧ cap = 0 ∧ zs = []) ∨
  ∃ x, a = some x ∧ len ≤ cap ∧ cap ≤ maxLen ∧ zs.length = cap ∧ (∀ i, i < zs.length → w.cell? (x.add i) = some (.int k (zs.getD i 0))) ∧ ∀ n ∈ zs, (Lit.int k n).wf = true
theorem isK_of {k : IntKind} {M : Nat} (hw : ∀ n : Int, (Lit.int k n).wf = true → 0 ≤ n ∧ n < (M : Int)) {w : World} {a : Option Addr} {len cap : Nat} {zs : List Int} (h : IsRow k w a len cap zs) : ∃ l : List Nat, l.length = len ∧ IsK k M w (.slice a len cap) l := by
  rcases h with ⟨rfl, rfl, rfl, rfl⟩ | ⟨x, rfl, hl, hm, hz, hcell, hwz⟩
  · exact ⟨[], rfl, isK_nil _ _ _ _ _⟩
  · have hlen : ((zs.take len).map Int.toNat).length = len := by rw [List.length_map, List.length_take]; omega
    refine ⟨(zs.take len).map Int.toNat, hlen, ?_, by rw [hlen]; omega, ?_⟩
    · intro n hn
      obtain ⟨z, hz1, rfl⟩ := List.mem_map.1 hn
      have := hw z (hwz z (List.mem_of_mem_take hz1))
      omega
    by_cases h0 : len = 0
    · subst h0
      exact .inl ⟨by simp, _, _, rfl⟩
    · obtain ⟨b, off, spot⟩ := x
      have hc := hcell 0 (by omega)
      have hspot : spot = none := by simpa [Addr.add] using World.cell?_spot hc
      subst hspot
      have hbl : b < w.heap.size := lt_of_cell hc
      refine .inr ⟨b, off, cap, by rw [hlen], by rw [hlen]; omega, hm, hbl, ?_⟩
      intro j hj
      rw [hlen] at hj
      have hck := hcell j (by omega)
      have hg : zs[j]? = some (zs.getD j 0) := by rw [List.getD_eq_getElem?_getD, List.getElem?_eq_getElem (by omega)]; rfl
      have hwj := hw _ (hwz (zs.getD j 0) (List.mem_of_getElem? hg))
      have he : (((zs.take len).map Int.toNat).getD j 0 : Nat) = (zs.getD j 0).toNat := by
        rw [List.getD_eq_getElem?_getD, List.getElem?_map, List.getElem?_take_of_lt hj, hg]; rfl
      rw [he, show (((zs.getD j 0).toNat : Nat) : Int) = zs.getD j 0 by omega]
      rw [add_at] at hck
      exact hck
theorem wf_u8 {n : Int} (h : (Lit.int .u8 n).wf = true) : 0 ≤ n ∧ n < ((256 : Nat) : Int) := by
  have := bounds_u8 h; omega
theorem IsRow.isB {w : World} {a : Option Addr} {len cap : Nat} {zs : List Int} (h : IsRow .u8 w a len cap zs) : ∃ l : List Nat, l.length = len ∧ IsB w (.slice a len cap) l := isK_of (fun _ => wf_u8) h
def bs (l : List Nat) : List Value := l.map fun x => Value.int .u8 ((x : Nat) : Int)
theorem bs_app (a b : List Nat) : bs a ++ bs b = bs (a ++ b) := by unfold bs; rw [List.map_append]
theorem bs_len (l : List Nat) : (bs l).length = l.length := by simp [bs]
/-- The block g holds the bytes l, and they may be written. -/
def Buf (w : World) (g cap : Nat) (l : List Nat) : Prop := l.length ≤ cap ∧ cap ≤ maxLen ∧ g < w.heap.size ∧ Byt l ∧ Row w g 0 l ∧ ∀ j, j < l.length → w.frozen? ⟨g, j, none⟩ = false
theorem Buf.isB {w : World} {g cap n : Nat} {l : List Nat} (h : Buf w g cap l) (hn : n = l.length) : IsB w (.slice (some ⟨g, 0, none⟩) n cap) l := by
  subst hn
  obtain ⟨h1, h2, h3, h4, h5, _⟩ := h
  exact ⟨h4, by omega, .inr ⟨g, 0, cap, rfl, h1, h2, h3, h5⟩⟩
theorem Buf.cell {w : World} {g cap : Nat} {l : List Nat} (h : Buf w g cap l) {j : Nat} (hj : j < l.length) : w.cell? ⟨g, j, none⟩ = some (.int .u8 ((l.getD j 0 : Nat) : Int)) := by
  have := h.2.2.2.2.1 j hj
  rwa [Nat.zero_add] at this
theorem Buf.set {w : World} {g cap : Nat} {l : List Nat} (h : Buf w g cap l) {j y : Nat} (hj : j < l.length) (hy : y < 256) : Buf (w.setCell ⟨g, j, none⟩ (.int .u8 (y : Int))) g cap (l.set j y) := by
  have hcj := h.cell hj
  obtain ⟨h1, h2, h3, h4, h5, h6⟩ := h
  refine ⟨by rw [List.length_set]; exact h1, h2, ?_, ?_, ?_, ?_⟩
  · have : (w.setCell ⟨g, j, none⟩ (.int .u8 (y : Int))).heap.size = w.heap.size := by simp [World.setCell]
    omega
  · intro x hx
    rcases List.mem_or_eq_of_mem_set hx with hx | hx
    · exact h4 x hx
    · omega
  · intro k hk
    rw [List.length_set] at hk
    rw [Nat.zero_add]
    by_cases e : k = j
    · subst e
      rw [World.cell?_setCell_same _ _ _ hcj, List.getD_eq_getElem?_getD, List.getElem?_set_self hj]; rfl
    · rw [World.cell?_setCell_other _ _ _ _ (by intro he; injection he; omega)]
      have := h5 k hk
      rw [Nat.zero_add] at this
      rw [this, List.getD_eq_getElem?_getD, List.getD_eq_getElem?_getD, List.getElem?_set_ne (by omega)]
  · intro k hk
    rw [List.length_set] at hk
    rw [World.frozen?_setCell]; exact h6 k hk
theorem Buf.below {w w' : World} {g cap n : Nat} {l : List Nat} (h : Buf w g cap l) (hg : g < n) (hb : Below n w w') : Buf w' g cap l := by
  obtain ⟨h1, h2, h3, h4, h5, h6⟩ := h
  refine ⟨h1, h2, Nat.lt_of_lt_of_le h3 hb.size, h4, fun k hk => ?_, fun k hk => ?_⟩
  · rw [hb.cell hg]; exact h5 k hk
  · rw [hb.frozen hg]; exact h6 k hk
theorem Buf.other {w : World} {g cap : Nat} {l : List Nat} (h : Buf w g cap l) {p : Addr} (hp : p.block ≠ g) (v : Value) : Buf (w.setCell p v) g cap l := by
  obtain ⟨h1, h2, h3, h4, h5, h6⟩ := h
  refine ⟨h1, h2, ?_, h4, fun k hk => ?_, fun k hk => ?_⟩
  · have : (w.setCell p v).heap.size = w.heap.size := by simp [World.setCell]
    omega
  · rw [World.cell?_setCell_other _ _ _ _ (by intro e; exact hp (by rw [e]))]; exact h5 k hk
  · rw [World.frozen?_setCell]; exact h6 k hk
theorem bs_at (l : List Nat) (j : Nat) (hj : j < l.length) : (bs l)[j]? = some (.int .u8 ((l.getD j 0 : Nat) : Int)) := by
  unfold bs
  rw [List.getElem?_map, List.getElem?_eq_getElem hj, List.getD_eq_getElem?_getD, List.getElem?_eq_getElem hj]; rfl
theorem buf_of_own {w : World} {base g n cap : Nat} {l : List Nat} (hb : Byt l) (hn : n = l.length) (hg : g < w.heap.size) (h : w.ownsRow base 5 1 (.slice (some ⟨g, 0, none⟩) n cap) n (bs l)) : Buf w g cap l := by
  obtain ⟨h0, ⟨e, _⟩ | ⟨g', cap', cur, e, _, hh, hl, hm, hc, ht⟩⟩ := h
  · simp at e
  · injection e with e1 e2 e3
    injection e1 with e1
    injection e1 with e4 _
    subst e4 e3 hn
    have hat : ∀ j, j < l.length → cur[j]? = some (.int .u8 ((l.getD j 0 : Nat) : Int)) := by
      intro j hj
      have := bs_at l j hj
      rw [← ht, List.getElem?_take_of_lt (by omega)] at this
      simpa using this
    refine ⟨hl, hm, hg, hb, fun k hk => ?_, fun k hk => ?_⟩
    · rw [Nat.zero_add]
      simp only [World.cell?, hh]
      simpa using hat k hk
    · simp [World.frozen?, hh]
theorem news_of_row {w : World} {b off : Nat} {l : List Nat} (h : Row w b off l) : ∀ j u, (bs l)[j]? = some u → w.cell? (Addr.add ⟨b, off, none⟩ j) = some u := by
  intro j u hu
  have hj : j < l.length := by
    have := (List.getElem?_eq_some_iff.1 hu).1
    simpa [bs] using this
  rw [add_at, h j hj]
  rw [bs_at l j hj] at hu
  exact hu
theorem bs_one (l : List Nat) : ∀ u ∈ bs l, u.oneCell' = true := by
  intro u hu
  obtain ⟨x, _, rfl⟩ := List.mem_map.1 hu
  rfl
theorem info_u8 : (Tryz.prog.info? 5).map (fun i => (i.zero, i.size, i.bytes)) = some (some (.int .u8 0), 1, 1) := by kernel_rfl
theorem own_nil (w : World) (base : Nat) : w.ownsRow base 5 1 (.slice none 0 0) 0 (bs []) := ⟨rfl, .inl ⟨rfl, rfl⟩⟩
/-- a list of bytes of the call's own: nil where there is none -/
def JB (w : World) (base : Nat) (v : Value) (l : List Nat) : Prop := Byt l ∧ w.ownsRow base 5 1 v l.length (bs l)
theorem JB.isB {w : World} {base : Nat} {v : Value} {l : List Nat} (h : JB w base v l) : IsB w v l := by
  obtain ⟨hb, ho⟩ := h
  by_cases h0 : l.length = 0
  · obtain rfl : l = [] := List.length_eq_zero_iff.1 h0
    rcases ho.2 with ⟨rfl, _⟩ | ⟨g, cap, cur, rfl, _⟩
    · exact isK_nil _ _ _ _ _
    · exact isK_nil _ _ _ _ _
  · obtain ⟨g, cap, rfl, _, hlt⟩ := ho.form (by omega)
    exact (buf_of_own hb rfl hlt ho).isB rfl
theorem own_lt {w : World} {base g n cap : Nat} {e : TypeId} {xs : List Value} (h : w.ownsRow base e 1 (.slice (some ⟨g, 0, none⟩) n cap) n xs) : g < w.heap.size ∧ base ≤ g := by
  obtain ⟨_, ⟨h, _⟩ | ⟨g', cap', cur, h, hb, hh, _⟩⟩ := h
  · cases h
  · injection h with h1 h2 h3
    injection h1 with h1
    injection h1 with h1
    subst h1
    exact ⟨(Array.getElem?_eq_some_iff.1 hh).1, hb⟩
theorem JB.buf {w : World} {base g n cap : Nat} {l : List Nat} (h : JB w base (.slice (some ⟨g, 0, none⟩) n cap) l) : Buf w g cap l := by
  obtain ⟨hb, ho⟩ := h
  have hn : n = l.length := by
    rcases ho.2 with ⟨h, _⟩ | ⟨g', cap', cur, h, _⟩
    · cases h
    · injection h with h1 h2 h3
  subst hn
  exact buf_of_own hb rfl (own_lt ho).1 ho
theorem own_set {w : World} {base g n cap j : Nat} {e : TypeId} {xs : List Value} (h : w.ownsRow base e 1 (.slice (some ⟨g, 0, none⟩) n cap) n xs) (u : Value) : (w.setCell ⟨g, j, none⟩ u).ownsRow base e 1 (.slice (some ⟨g, 0, none⟩) n cap) n (xs.set j u) := by
  obtain ⟨h0, ⟨h, _⟩ | ⟨g', cap', cur, h, hb, hh, hl, hm, hc, ht⟩⟩ := h
  · cases h
  · injection h with h1 h2 h3
    injection h1 with h1
    injection h1 with h1
    subst h1 h3
    refine ⟨by rw [List.length_set]; exact h0, .inr ⟨g, cap, cur.setIfInBounds j u, rfl, hb, ?_, hl, hm, by rw [Array.size_setIfInBounds]; exact hc, ?_⟩⟩
    · have hlt := (Array.getElem?_eq_some_iff.1 hh).1
      have h' : w.heap[g] = .cells cur e (0, 0) := by simpa [Array.getElem?_eq_getElem hlt] using hh
      show (w.heap.modify g _)[g]? = _
      rw [Array.getElem?_eq_getElem (by simpa using hlt), Array.getElem_modify_self, h']
      rfl
    · rw [Array.toList_setIfInBounds, List.take_set, ht]
theorem JB.set {w : World} {base g n cap j y : Nat} {l : List Nat} (h : JB w base (.slice (some ⟨g, 0, none⟩) n cap) l) (hn : n = l.length) (hy : y < 256) : JB (w.setCell ⟨g, j, none⟩ (.int .u8 (y : Int))) base (.slice (some ⟨g, 0, none⟩) n cap) (l.set j y) := by
  subst hn
  refine ⟨?_, ?_⟩
  · intro x hx
    rcases List.mem_or_eq_of_mem_set hx with hx | hx
    · exact h.1 x hx
    · omega
  · have := own_set (j := j) h.2 (.int .u8 (y : Int))
    unfold bs
    rw [List.length_set, List.map_set]
    exact this
end Vt
end Go.Proofs.YtolddolfpnkndaaGreat
namespace Go.Proofs.YtolddolfpnkndaaGreat
open Go.RowKit
namespace Vt
theorem made8 (n : Nat) : (madeCells (Value.int .u8 0).cells (n * 1)).toList = bs (List.replicate n 0) := by
  refine List.ext_getElem (by simp [madeCells, bs]) fun i h1 h2 => ?_
  simp [madeCells, bs, Value.cells, Nat.mod_one]
theorem lit_isK (k : IntKind) (M : Nat) (w : World) (xs : Array Value) (t : TypeId) (l : List Nat) (n : Nat) (hn : n = l.length) (hx : xs = (l.map fun x => Value.int k ((x : Nat) : Int)).toArray) (hb : ∀ x ∈ l, x < M) (hm : l.length ≤ maxLen) : IsK k M (w.alloc (.cells xs t)) (.slice (some ⟨w.heap.size, 0, none⟩) n n) l := by
  subst hn
  refine ⟨hb, hm, .inr ⟨w.heap.size, 0, l.length, rfl, Nat.le_refl _, hm, by simp, fun j hj => ?_⟩⟩
  subst hx
  rw [Nat.zero_add, World.cell?_alloc_new, List.getD_eq_getElem?_getD, List.getElem?_eq_getElem hj]
  simp [hj]
theorem lit_isK_at (k : IntKind) (M : Nat) (w : World) (xs : Array Value) (t : TypeId) (l : List Nat) (n g : Nat) (hg : w.heap.size = g) (hn : n = l.length) (hx : xs = (l.map fun x => Value.int k ((x : Nat) : Int)).toArray) (hb : ∀ x ∈ l, x < M) (hm : l.length ≤ maxLen) : IsK k M (w.alloc (.cells xs t)) (.slice (some ⟨g, 0, none⟩) n n) l := by
  subst hg
  exact lit_isK k M w xs t l n hn hx hb hm
theorem own_below {w w' : World} {base g m n cap k : Nat} {e : TypeId} {xs : List Value} (h : w.ownsRow base e 1 (.slice (some ⟨g, 0, none⟩) m cap) n xs) (hg : g < k) (hb : Below k w w') : w'.ownsRow base e 1 (.slice (some ⟨g, 0, none⟩) m cap) n xs := by
  obtain ⟨h0, ⟨h, _⟩ | ⟨g', cap', cur, h, hbs, hh, hr⟩⟩ := h
  · cases h
  · refine ⟨h0, .inr ⟨g', cap', cur, h, hbs, ?_, hr⟩⟩
    injection h with h1 h2 h3
    injection h1 with h1
    injection h1 with h1
    subst h1
    rw [hb.block g hg]; exact hh
theorem JB.below {w w' : World} {base g n cap k : Nat} {l : List Nat} (h : JB w base (.slice (some ⟨g, 0, none⟩) n cap) l) (hg : g < k) (hb : Below k w w') : JB w' base (.slice (some ⟨g, 0, none⟩) n cap) l := ⟨h.1, own_below h.2 hg hb⟩
theorem IsK.cap {k : IntKind} {M : Nat} {w : World} {a : Option Addr} {n c : Nat} {l : List Nat} (h : IsK k M w (.slice a n c) l) : l.length ≤ c := by
  obtain ⟨_, _, ⟨rfl, a', c', e⟩ | ⟨b, off, c', e, h1, _⟩⟩ := h
  · simp
  · injection e with e1 e2 e3
    omega
theorem jb_snoc {w : World} {base : Nat} {a : Option Addr} {n cap y : Nat} {l : List Nat} {z : Int} (hz : z = (y : Int)) (hy : y < 256) (hb : Byt l) (hn : n + 1 = l.length + 1) (h : w.ownsRow base 5 1 (.slice a (n + 1) cap) (n + 1) (bs l ++ [.int .u8 z])) : JB w base (.slice a (n + 1) cap) (l ++ [y]) := by
  subst hz
  refine ⟨byt_app hb (by intro x hx; simp at hx; omega), ?_⟩
  rw [List.length_append, List.length_singleton, ← hn, ← bs_app]
  exact h
end Vt
end Go.Proofs.YtolddolfpnkndaaGreat
