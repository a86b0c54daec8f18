/-
  Append to an own row of structs of two cells.
-/
import Derived.Test.YtpjfoinkifkdoaaBk0
namespace Go.Proofs.Ytpjfoinkifkdoaa
open Go.RowKit
namespace Jp
open Vt Ow
theorem drew {T : TypeId} {w : World} {base : Nat} {v : Value} {cs : List (Value × Value)} (h : JP T w base v cs) : JP T w.drew base v cs := h
theorem run_append_jp {T S : TypeId} {z : Value} {by_ : Nat} (hS : Try.prog.underlying S = some (.slice T)) (hE : (Try.prog.info? T).map (fun i => (i.zero, i.size, i.bytes)) = some (some z, 2, by_)) (hz : z.cells.size = 2) (ty : TypeId) (w : World)
    (base : Nat) (v : Value) (cs ds : List (Value × Value)) (ad : Addr) (m c : Nat) (hJ : JP T w base v cs) (hd1 : One ds) (hm : ds.length = m) (hm0 : 0 < m) (hu : ∀ j u, (pc ds)[j]? = some u → w.cell? (ad.add j) = some u) (hb : (cs.length + m) * by_ ≤ 140737488355328) (hb2 : cs.length + m ≤ maxLen) (hbase : base ≤ w.heap.size) :
    ∃ g cap w', (Builtin.append_ #[S, S] ty #[v, .slice (some ad) m c]).run Try.prog w = .ok (.slice (some ⟨g, 0, none⟩) (cs.length + m) cap) w' ∧ JP T w' base (.slice (some ⟨g, 0, none⟩) (cs.length + m) cap) (cs ++ ds) ∧ w.grownBy w' v.ownBlock ∧ (v.ownBlock = some g ∨ g = w.heap.size) := by
  obtain ⟨i0, hi, hz0, hz1, hz2⟩ := info_parts hE
  obtain ⟨g, cap, w', hr, h2, h3, h4, _⟩ := run_append_lies (P := Try.prog) w S ty base T i0 z 2 by_ hS hi hz0 hz1 hz2 hz (by decide) v cs.length (pc cs) hJ.2 ad m c (pc ds) (by rw [pc_len, hm]) hu hd1.cells hm0 hb2 hb hbase w.heap.size rfl
  refine ⟨g, cap, w', hr, ⟨?_, ?_⟩, h3, h4⟩
  · intro p hp
    rcases List.mem_append.1 hp with hp | hp
    · exact hJ.1 p hp
    · exact hd1 p hp
  · rw [List.length_append, hm, ← pc_app]; exact h2
end Jp
end Go.Proofs.Ytpjfoinkifkdoaa
