/-
  SMALL HELPS that the walks share: rows of the call's own that stay, literal slices, a byte put behind.
-/
import Derived.Test.YtfnbfgkoicdiaaaV1
import Derived.Deep.QuietTactic
import Derived.BigQuiet
import Derived.Deep.RegionWith
import Derived.OwnWalk
namespace Go.Proofs.Ytfnbfgkoicdiaaa
open Go.RowKit
namespace Vt
theorem drewN2 (w : World) (n m : Nat) : ∃ k, (w.drewN n).drewN m = w.drewN k := ⟨n + m, World.drewN_drewN w n m⟩
theorem ext_getD {la lb : List Nat} (hl : la.length = lb.length) (h : ∀ k, k < la.length → la.getD k 0 = lb.getD k 0) : la = lb := by
  refine List.ext_getElem hl fun i h1 h2 => ?_
  have := h i h1
  rwa [List.getD_eq_getElem?_getD, List.getD_eq_getElem?_getD, List.getElem?_eq_getElem h1, List.getElem?_eq_getElem h2] at this
theorem made8 (n : Nat) : (madeCells (Value.int .u8 0).cells (n * 1)).toList = bs (List.replicate n 0) := by
  refine List.ext_getElem (by simp [madeCells, bs]) fun i h1 h2 => ?_
  simp [madeCells, bs, Value.cells, Nat.mod_one]
theorem lit_isK (k : IntKind) (M : Nat) (w : World) (xs : Array Value) (t : TypeId) (l : List Nat) (n : Nat) (hn : n = l.length) (hx : xs = (l.map fun x => Value.int k ((x : Nat) : Int)).toArray) (hb : ∀ x ∈ l, x < M) (hm : l.length ≤ maxLen) : IsK k M (w.alloc (.cells xs t)) (.slice (some ⟨w.heap.size, 0, none⟩) n n) l := by
  subst hn
  refine ⟨hb, hm, .inr ⟨w.heap.size, 0, l.length, rfl, Nat.le_refl _, hm, by simp, fun j hj => ?_⟩⟩
  subst hx
  rw [Nat.zero_add, World.cell?_alloc_new, List.getD_eq_getElem?_getD, List.getElem?_eq_getElem hj]
  simp [hj]
theorem lit_isK_at (k : IntKind) (M : Nat) (w : World) (xs : Array Value) (t : TypeId) (l : List Nat) (n g : Nat) (hg : w.heap.size = g) (hn : n = l.length) (hx : xs = (l.map fun x => Value.int k ((x : Nat) : Int)).toArray) (hb : ∀ x ∈ l, x < M) (hm : l.length ≤ maxLen) : IsK k M (w.alloc (.cells xs t)) (.slice (some ⟨g, 0, none⟩) n n) l := by
  subst hg
  exact lit_isK k M w xs t l n hn hx hb hm
theorem own_below {w w' : World} {base g m n cap k : Nat} {e : TypeId} {xs : List Value} (h : w.ownsRow base e 1 (.slice (some ⟨g, 0, none⟩) m cap) n xs) (hg : g < k) (hb : Below k w w') : w'.ownsRow base e 1 (.slice (some ⟨g, 0, none⟩) m cap) n xs := by
  obtain ⟨h0, ⟨h, _⟩ | ⟨g', cap', cur, h, hbs, hh, hr⟩⟩ := h
  · cases h
  · refine ⟨h0, .inr ⟨g', cap', cur, h, hbs, ?_, hr⟩⟩
    injection h with h1 h2 h3
    injection h1 with h1
    injection h1 with h1
    subst h1
    rw [hb.block g hg]; exact hh
theorem JB.below {w w' : World} {base g n cap k : Nat} {l : List Nat} (h : JB w base (.slice (some ⟨g, 0, none⟩) n cap) l) (hg : g < k) (hb : Below k w w') : JB w' base (.slice (some ⟨g, 0, none⟩) n cap) l := ⟨h.1, own_below h.2 hg hb⟩
theorem IsK.cap {k : IntKind} {M : Nat} {w : World} {a : Option Addr} {n c : Nat} {l : List Nat} (h : IsK k M w (.slice a n c) l) : l.length ≤ c := by
  obtain ⟨_, _, ⟨rfl, a', c', e⟩ | ⟨b, off, c', e, h1, _⟩⟩ := h
  · simp
  · injection e with e1 e2 e3
    omega
theorem bytes_u8 : Try.prog.bytesOf 5 = 1 := by kernel_rfl
theorem jb_snoc {w : World} {base : Nat} {a : Option Addr} {n cap y : Nat} {l : List Nat} {z : Int} (hz : z = (y : Int)) (hy : y < 256) (hb : Byt l) (hn : n + 1 = l.length + 1) (h : w.ownsRow base 5 1 (.slice a (n + 1) cap) (n + 1) (bs l ++ [.int .u8 z])) : JB w base (.slice a (n + 1) cap) (l ++ [y]) := by
  subst hz
  refine ⟨byt_app hb (by intro x hx; simp at hx; omega), ?_⟩
  rw [List.length_append, List.length_singleton, ← hn, ← bs_app]
  exact h
end Vt
end Go.Proofs.Ytfnbfgkoicdiaaa
