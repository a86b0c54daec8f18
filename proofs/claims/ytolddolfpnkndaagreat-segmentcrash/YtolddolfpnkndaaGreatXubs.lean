/-
  OWN ROWS OF STRUCTS OF TWO CELLS ('JP'): append of some, what each cell holds. No condition beyond those that each row bears.
  Append to an own row of structs of two cells.
-/
import Derived.Test.YtolddolfpnkndaaGreatXubr
import Derived.Test.YtolddolfpnkndaaGreatXuab
namespace Go.Proofs.YtolddolfpnkndaaGreat
open Go.RowKit
namespace Ow
open Vt
/-- the cells of pairs -/
def pc (cs : List (Value × Value)) : List Value := cs.flatMap fun p => [p.1, p.2]
theorem pc_len (cs : List (Value × Value)) : (pc cs).length = cs.length * 2 := by
  induction cs with
  | nil => rfl
  | cons p r ih => simp only [pc, List.flatMap_cons, List.length_append, List.length_cons, List.length_nil] at *; omega
theorem pc_app (a b : List (Value × Value)) : pc a ++ pc b = pc (a ++ b) := by unfold pc; rw [List.flatMap_append]
theorem pc_at (cs : List (Value × Value)) (i : Nat) (p : Value × Value) (h : cs[i]? = some p) : (pc cs)[i * 2]? = some p.1 ∧ (pc cs)[i * 2 + 1]? = some p.2 := by
  induction cs generalizing i with
  | nil => simp at h
  | cons q r ih =>
    cases i with
    | zero => simp at h; subst h; exact ⟨rfl, rfl⟩
    | succ i =>
      have := ih i (by simpa using h)
      have e : pc (q :: r) = q.1 :: q.2 :: pc r := rfl
      rw [e, show (i + 1) * 2 = i * 2 + 1 + 1 by omega, show i * 2 + 1 + 1 + 1 = (i * 2 + 1) + 1 + 1 by omega]
      exact this
def One (cs : List (Value × Value)) : Prop := ∀ p ∈ cs, p.1.oneCell' = true ∧ p.2.oneCell' = true
theorem One.cells {cs : List (Value × Value)} (h : One cs) : ∀ u ∈ pc cs, u.oneCell' = true := by
  intro u hu
  obtain ⟨p, hp, hu⟩ := List.mem_flatMap.1 hu
  simp at hu
  rcases hu with rfl | rfl
  · exact (h p hp).1
  · exact (h p hp).2
/-- a row of the call's own, of structs of two cells -/
def JP (T : TypeId) (w : World) (base : Nat) (v : Value) (cs : List (Value × Value)) : Prop := One cs ∧ w.ownsRow base T 2 v cs.length (pc cs)
section
variable {T : TypeId}
theorem jp_nil (w : World) (base : Nat) : JP T w base (.slice none 0 0) [] := ⟨(fun p hp => by cases hp), rfl, .inl ⟨rfl, rfl⟩⟩
theorem JP.shape {w : World} {base : Nat} {v : Value} {cs : List (Value × Value)} (h : JP T w base v cs) : ∃ a c, v = .slice a cs.length c ∧ cs.length ≤ c := by
  rcases h.2.2 with ⟨rfl, e⟩ | ⟨g, cap, cur, rfl, _, _, hl, _⟩
  · exact ⟨none, 0, by rw [e], by omega⟩
  · exact ⟨_, cap, rfl, hl⟩
theorem JP.blk_lt {w : World} {base : Nat} {v : Value} {cs : List (Value × Value)} (h : JP T w base v cs) : ∀ g, v.ownBlock = some g → g < w.heap.size := by
  intro g hg
  obtain ⟨_, _, ⟨rfl, e⟩ | ⟨g', cap', cur, rfl, hbs, hh, hr⟩⟩ := h
  · cases hg
  · cases hg
    exact (Array.getElem?_eq_some_iff.1 hh).1
theorem JP.blk_ge {w : World} {base : Nat} {v : Value} {cs : List (Value × Value)} (h : JP T w base v cs) : ∀ g, v.ownBlock = some g → base ≤ g := by
  intro g hg
  obtain ⟨_, _, ⟨rfl, e⟩ | ⟨g', cap', cur, rfl, hbs, hh, hr⟩⟩ := h
  · cases hg
  · cases hg
    exact hbs
theorem JP.same {w w' : World} {base : Nat} {v : Value} {cs : List (Value × Value)} (h : JP T w base v cs) (hb : ∀ g, v.ownBlock = some g → w'.heap[g]? = w.heap[g]?) : JP T w' base v cs := by
  obtain ⟨h1, h0, ⟨rfl, e⟩ | ⟨g', cap', cur, rfl, hbs, hh, hr⟩⟩ := h
  · exact ⟨h1, h0, .inl ⟨rfl, e⟩⟩
  · exact ⟨h1, h0, .inr ⟨g', cap', cur, rfl, hbs, (hb g' rfl).trans hh, hr⟩⟩
theorem JP.below {w w' : World} {base : Nat} {v : Value} {cs : List (Value × Value)} (h : JP T w base v cs) (hb : Below w.heap.size w w') : JP T w' base v cs := h.same fun g e => hb.block g (h.blk_lt g e)
theorem JP.grownO {w w' : World} {base : Nat} {row : Option Nat} {v : Value} {cs : List (Value × Value)} (h : JP T w base v cs) (hg : w.grownBy w' row) (hne : ∀ g, v.ownBlock = some g → some g ≠ row) : JP T w' base v cs := h.same fun g e => hg.block g (h.blk_lt g e) (hne g e)
/-- the block of a row, by its type -/
def BT (w : World) (g : Nat) (T : TypeId) : Prop := ∃ cur, w.heap[g]? = some (.cells cur T (0, 0))
theorem BT.ne {w : World} {g h : Nat} {T1 T2 : TypeId} (a : BT w g T1) (b : BT w h T2) (hT : T1 ≠ T2) : g ≠ h := by
  rintro rfl
  obtain ⟨c1, h1⟩ := a
  obtain ⟨c2, h2⟩ := b
  rw [h1] at h2
  injection h2 with h2
  injection h2 with _ h3 _
  exact hT h3
theorem JP.bt {w : World} {base : Nat} {v : Value} {cs : List (Value × Value)} (h : JP T w base v cs) {g : Nat} (hg : v.ownBlock = some g) : BT w g T := by
  obtain ⟨_, _, ⟨rfl, _⟩ | ⟨g1, c1, cur1, rfl, _, hh1, _⟩⟩ := h
  · cases hg
  · have e : g1 = g := by simpa [Value.ownBlock] using hg
    rw [e] at hh1
    exact ⟨_, hh1⟩
theorem JV.bt {w : World} {base : Nat} {v : Value} {xs : List Value} (h : JV T w base v xs) {g : Nat} (hg : v.ownBlock = some g) : BT w g T := by
  obtain ⟨_, _, ⟨rfl, _⟩ | ⟨g1, c1, cur1, rfl, _, hh1, _⟩⟩ := h
  · cases hg
  · have e : g1 = g := by simpa [Value.ownBlock] using hg
    rw [e] at hh1
    exact ⟨_, hh1⟩
theorem JP.at {w : World} {base g n cap : Nat} {cs : List (Value × Value)} (h : JP T w base (.slice (some ⟨g, 0, none⟩) n cap) cs) : n = cs.length ∧ n ≤ cap ∧ cap ≤ maxLen ∧ g < w.heap.size ∧ base ≤ g ∧ ∀ i p, cs[i]? = some p → w.cell? ⟨g, i * 2, none⟩ = some p.1 ∧ w.cell? ⟨g, i * 2 + 1, none⟩ = some p.2 := by
  obtain ⟨h1, h0, ⟨e, _⟩ | ⟨g', cap', cur, e, hbs, hh, hl, hm, hc, ht⟩⟩ := h
  · cases e
  · injection e with e1 e2 e3
    injection e1 with e1
    injection e1 with e4 _
    subst e4 e3 e2
    refine ⟨rfl, hl, hm, (Array.getElem?_eq_some_iff.1 hh).1, hbs, fun i p hp => ?_⟩
    have hi : i < cs.length := (List.getElem?_eq_some_iff.1 hp).1
    obtain ⟨q1, q2⟩ := pc_at cs i p hp
    have k : ∀ j u, (pc cs)[j]? = some u → j < cs.length * 2 → w.cell? ⟨g, j, none⟩ = some u := by
      intro j u hu hj
      rw [← ht, List.getElem?_take_of_lt hj] at hu
      simp only [World.cell?, hh]
      simpa using hu
    exact ⟨k _ _ q1 (by omega), k _ _ q2 (by omega)⟩
variable {S : TypeId} {z : Value} {by_ : Nat}
end
end Ow
end Go.Proofs.YtolddolfpnkndaaGreat
namespace Go.Proofs.YtolddolfpnkndaaGreat
open Go.RowKit
namespace Jp
open Vt Ow
theorem drew {T : TypeId} {w : World} {base : Nat} {v : Value} {cs : List (Value × Value)} (h : JP T w base v cs) : JP T w.drew base v cs := h
theorem run_append_jp {T S : TypeId} {z : Value} {by_ : Nat} (hS : Tryz.prog.underlying S = some (.slice T)) (hE : (Tryz.prog.info? T).map (fun i => (i.zero, i.size, i.bytes)) = some (some z, 2, by_)) (hz : z.cells.size = 2) (ty : TypeId) (w : World)
    (base : Nat) (v : Value) (cs ds : List (Value × Value)) (ad : Addr) (m c : Nat) (hJ : JP T w base v cs) (hd1 : One ds) (hm : ds.length = m) (hm0 : 0 < m) (hu : ∀ j u, (pc ds)[j]? = some u → w.cell? (ad.add j) = some u) (hb : (cs.length + m) * by_ ≤ 140737488355328) (hb2 : cs.length + m ≤ maxLen) (hbase : base ≤ w.heap.size) :
    ∃ g cap w', (Builtin.append_ #[S, S] ty #[v, .slice (some ad) m c]).run Tryz.prog w = .ok (.slice (some ⟨g, 0, none⟩) (cs.length + m) cap) w' ∧ JP T w' base (.slice (some ⟨g, 0, none⟩) (cs.length + m) cap) (cs ++ ds) ∧ w.grownBy w' v.ownBlock ∧ (v.ownBlock = some g ∨ g = w.heap.size) := by
  obtain ⟨i0, hi, hz0, hz1, hz2⟩ := info_parts hE
  obtain ⟨g, cap, w', hr, h2, h3, h4, _⟩ := run_append_lies (P := Tryz.prog) w S ty base T i0 z 2 by_ hS hi hz0 hz1 hz2 hz (by decide) v cs.length (pc cs) hJ.2 ad m c (pc ds) (by rw [pc_len, hm]) hu hd1.cells hm0 hb2 hb hbase w.heap.size rfl
  refine ⟨g, cap, w', hr, ⟨?_, ?_⟩, h3, h4⟩
  · intro p hp
    rcases List.mem_append.1 hp with hp | hp
    · exact hJ.1 p hp
    · exact hd1 p hp
  · rw [List.length_append, hm, ← pc_app]; exact h2
end Jp
end Go.Proofs.YtolddolfpnkndaaGreat
