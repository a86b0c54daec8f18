/-
  THE WALKS OF the laws' own 'same' (by string), 'awake'.
-/
import Derived.Test.YtfnbfgkoicdiaaaE3
import Derived.Test.YtfnbfgkoicdiaaaStr
namespace Go.Proofs.Ytfnbfgkoicdiaaa
open Go.RowKit
namespace Vt
theorem str_eq {la lb : List Nat} (ha : Byt la) (hb : Byt lb) : ((str la).toList == (str lb).toList) = decide (la = lb) := by
  by_cases h : la = lb
  · subst h; simp
  · rw [decide_eq_false h, ByteArray.toList_eq, ByteArray.toList_eq, beq_eq_false_iff_ne]
    intro e
    exact h ((str_inj ha hb).1 (Go.WideShapes.bytes_inj e))
theorem conv_is (w : World) (v : Value) (l : List Nat) (h : IsB w v l) : (convert 25 9 v).run Try.prog w = .ok (.string (str l)) w := by
  obtain ⟨a, c, rfl⟩ := h.shape
  rw [run_convert_bytes_string w _ _ 5 _ _ _ Try.underlying25 Try.underlying5 Try.underlying9]
  cases a with
  | none =>
    obtain ⟨_, _, ⟨rfl, a', c', e⟩ | ⟨b, off, c', e, _⟩⟩ := h
    · rfl
    · cases e
  | some ad =>
    refine run_bytesToString w ad _ _ (l.map fun x => ((x : Nat) : Int)) ?_
    obtain ⟨_, _, ⟨rfl, a', c', e⟩ | ⟨b, off, c', e, _, _, _, hr⟩⟩ := h
    · rfl
    · injection e with e1 e2 e3
      injection e1 with e1
      subst e1
      have := run_loadCells_list (P := Try.prog) w ⟨b, off, none⟩ (bs l) (news_of_row hr)
      rw [bs_len] at this
      rw [this]
      unfold bs
      rw [List.map_map]; rfl
theorem awake_wr : wr [167, 0, 166] = [166, 1, 0, 166, 0] := by decide
end Vt
end Go.Proofs.Ytfnbfgkoicdiaaa
