/-
  slices.Sort and slices.Compact of a row of strings of the call's own.
-/
import Derived.Test.YtglnhppgoomehabNq0
import Derived.Test.YtglnhppgoomehabNso
import Derived.Test.YtglnhppgoomehabNlf
import Derived.Sort.OwnSorted
namespace Go.Proofs.Ytglnhppgoomehab
open Go.RowKit Go.Sort
namespace Nam
open Vt
theorem IsS.take {w : World} {a : Option Addr} {n c : Nat} {l : List ByteArray} (h : IsS w (.slice a n c) l) (m : Nat) (hm : m ≤ l.length) : IsS w (.slice a m c) (l.take m) := by
  obtain ⟨h1, h2, ⟨rfl, a', c', e⟩ | ⟨b', off', c', e, h3, h4, h5, h6⟩⟩ := h
  · obtain rfl : m = 0 := by simpa using hm
    rw [List.take_nil]; exact isS_nil _ _ _
  · injection e with e1 e2 e3
    subst e1 e2 e3
    have hl : (l.take m).length = m := by rw [List.length_take]; omega
    refine ⟨fun x hx => h1 x (List.mem_of_mem_take hx), by omega, .inr ⟨b', off', c, by rw [hl], by omega, h4, h5, fun j hj => ?_⟩⟩
    rw [hl] at hj
    rw [h6 j (by omega), List.getD_eq_getElem?_getD, List.getD_eq_getElem?_getD, List.getElem?_take_of_lt hj]
theorem sv_enc (l : List ByteArray) : sv l = (l.map key).map encStr := by
  unfold sv
  rw [List.map_map]
  rfl
theorem sv_mk (ts : List U8s) : sv (ts.map mkS) = ts.map encStr := by
  unfold sv
  rw [List.map_map]
  rfl
theorem key_len (s : ByteArray) : (key s).length = s.size := by unfold key; rw [Array.length_toList]; rfl
theorem mkS_size (x : U8s) : (mkS x).size = x.length := by rw [← key_len, key_mkS]
/-- the row of a class, sorted -/
def so' (l : List ByteArray) : List ByteArray := ((l.map key).mergeSort leB).map mkS
theorem so'_len (l : List ByteArray) : (so' l).length = l.length := by unfold so'; rw [List.length_map, List.length_mergeSort, List.length_map]
theorem so'_mem (l : List ByteArray) (s : ByteArray) : s ∈ so' l ↔ s ∈ l := by
  unfold so'
  rw [List.mem_map]
  constructor
  · rintro ⟨x, hx, rfl⟩
    rw [List.mem_mergeSort, List.mem_map] at hx
    obtain ⟨s, hs, rfl⟩ := hx
    exact hs
  · intro hs
    exact ⟨key s, by rw [List.mem_mergeSort, List.mem_map]; exact ⟨s, hs, rfl⟩, rfl⟩
theorem sort_js (w : World) (base : Nat) (v : Value) (l : List ByteArray) (hJ : JS w base v l) (hlen : l.length ≤ 140737488355328) :
    Calls Try.prog 19 #[v] w fun e w' => e = .returned (.tuple #[]) ∧ JS w' base v (so' l) ∧ w.grownBy w' v.ownBlock := by
  have hsz : ∀ x ∈ so' l, x.size ≤ maxLen := fun x hx => hJ.1 x ((so'_mem l x).1 hx)
  obtain ⟨h1, h0, ⟨rfl, e⟩ | ⟨g, cap, cur, rfl, hbs, hh, hl, hm, hc, ht⟩⟩ := hJ
  · obtain rfl : l = [] := List.length_eq_zero_iff.1 e
    refine Calls.mono (slices_Sort_string_none none 0 w) ?_
    rintro e w' ⟨rfl, rfl⟩
    exact ⟨rfl, by rw [show so' [] = [] by simp [so']]; exact js_nil _ _, World.grownBy.refl _ _⟩
  · have e : l.length = (l.map key).length := by rw [List.length_map]
    rw [Nat.mul_one, sv_enc] at ht
    have hH : Holds encStr w g 0 (l.map key).toArray := holds_of_block hh (by rw [← e]; exact ht)
    have hx := slices_Sort_string g 0 cap (l.map key) w hH (Array.getElem?_eq_some_iff.1 hh).1 (by rw [← e]; omega)
    rw [← e] at hx
    refine Calls.mono hx ?_
    rintro e' w' ⟨rfl, n, os, rfl⟩
    refine ⟨rfl, ⟨hsz, ?_⟩, grownBy_sorted _⟩
    have := ownsRow_sorted (n := n) (os := os) (ss := l.map key) (ts := (l.map key).mergeSort leB) (by rw [List.length_mergeSort]) hbs hh (by rw [← e]; exact hl) hm hc
    rw [← e] at this
    rw [so'_len]
    unfold so'
    rw [sv_mk]
    exact this
/-- a sorted row, each once -/
def co (l : List ByteArray) : List ByteArray := (Lib.compact (l.map key)).map mkS
theorem co_le (l : List ByteArray) : (co l).length ≤ l.length := by
  unfold co
  rw [List.length_map]
  have := compact_le (l.map key)
  rwa [List.length_map] at this
theorem co_mem (l : List ByteArray) (s : ByteArray) : s ∈ co l ↔ s ∈ l := by
  unfold co
  rw [List.mem_map]
  constructor
  · rintro ⟨x, hx, rfl⟩
    rw [compact_mem, List.mem_map] at hx
    obtain ⟨s, hs, rfl⟩ := hx
    exact hs
  · intro hs
    exact ⟨key s, by rw [compact_mem, List.mem_map]; exact ⟨s, hs, rfl⟩, rfl⟩
theorem co_so (c : Nat) (ss : List ByteArray) : co (so' (ss.filter fun s => cls s = c)) = grp c ss := by
  unfold co so' grp
  rw [List.map_map, show (key ∘ mkS) = id by funext x; exact key_mkS x, List.map_id]
theorem grow_nil (w : World) : grow w #[] = w := by unfold grow; simp
theorem compact_js (w : World) (base : Nat) (v : Value) (l : List ByteArray) (hJ : JS w base v l) :
    Calls Try.prog 20 #[v] w fun e w' => (∃ v', e = .returned v' ∧ IsS w' v' (co l)) ∧ w.grownBy w' v.ownBlock := by
  obtain ⟨h1, h0, ⟨rfl, e⟩ | ⟨g, cap, cur, rfl, hbs, hh, hl, hm, hc, ht⟩⟩ := hJ
  · obtain rfl : l = [] := List.length_eq_zero_iff.1 e
    refine Calls.mono (slices_Compact_string_empty none 0 w) ?_
    rintro e w' ⟨rfl, rfl⟩
    exact ⟨⟨_, rfl, isS_nil _ _ _⟩, World.grownBy.refl _ _⟩
  · have e : l.length = (l.map key).length := by rw [List.length_map]
    rw [Nat.mul_one, sv_enc] at ht
    have hmm : l.length ≤ 9223372036854775807 := by unfold maxLen at hm; omega
    have hH : Holds encStr w g 0 (l.map key).toArray := holds_of_block hh (by rw [← e]; exact ht)
    have hx := slices_Compact_string g 0 cap (l.map key) w hH (by rw [← e]; exact hmm) (by rw [← e]; exact hl)
    rw [← e] at hx
    refine Calls.mono hx ?_
    rintro e' w' ⟨rfl, q, hw⟩
    have hcl := compact_le (l.map key)
    rw [← e] at hcl
    rw [← grow_nil (putRow _ _ _ _ _)] at hw
    subst hw
    refine ⟨⟨_, rfl, ?_⟩, grownBy_sorted _⟩
    have hown := ownsRow_sorted (n := q) (os := #[]) (ss := l.map key) (ts := Lib.compact (l.map key) ++ List.replicate (l.length - (Lib.compact (l.map key)).length) []) (by rw [List.length_append, List.length_replicate, ← e]; omega) hbs hh (by rw [← e]; exact hl) hm hc
    rw [← e] at hown
    have hJ2 : JS (grow (putRow encStr (Sort.ahead w q) g 0 (Lib.compact (l.map key) ++ List.replicate (l.length - (Lib.compact (l.map key)).length) []).toArray) #[]) base (.slice (some ⟨g, 0, none⟩) l.length cap) ((Lib.compact (l.map key) ++ List.replicate (l.length - (Lib.compact (l.map key)).length) []).map mkS) := by
      refine ⟨?_, ?_⟩
      · intro x hx
        obtain ⟨y, hy, rfl⟩ := List.mem_map.1 hx
        rcases List.mem_append.1 hy with hy | hy
        · rw [compact_mem, List.mem_map] at hy
          obtain ⟨s, hs, rfl⟩ := hy
          exact h1 s hs
        · rw [List.eq_of_mem_replicate hy, mkS_size]
          exact Nat.zero_le _
      · rw [sv_mk, List.length_map, List.length_append, List.length_replicate, show (Lib.compact (l.map key)).length + (l.length - (Lib.compact (l.map key)).length) = l.length by omega]
        exact hown
    have hI := hJ2.isS.take (Lib.compact (l.map key)).length (by rw [List.length_map, List.length_append]; omega)
    rw [List.map_append, List.take_left' (by rw [List.length_map])] at hI
    exact hI
end Nam
end Go.Proofs.Ytglnhppgoomehab
