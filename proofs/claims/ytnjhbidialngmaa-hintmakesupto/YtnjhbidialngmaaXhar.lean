/-
  THE REFERENCE OF LAYER 4: salvorref4.Body of a frame that may not be, of a Put, of a Delete.
-/
import Derived.Test.YtnjhbidialngmaaXhaq
import Derived.Test.YtnjhbidialngmaaXhao
import Derived.Lib.AppendStr
namespace Go.Proofs.Ytnjhbidialngmaa
open Go.RowKit
namespace Vt
theorem JB.ne_blk {w : World} {base O : Nat} {v : Value} {l : List Nat} {T : TypeId} {cs : List Value} (h : JB w base v l) (hB : Blk w O T cs) (hT : T ≠ 5) : some O ≠ v.ownBlock := by
  obtain ⟨_, _, ⟨rfl, e⟩ | ⟨g', cap', cur, rfl, hbs, hh, hr⟩⟩ := h
  · intro q; cases q
  · intro q
    cases q
    unfold Blk at hB
    rw [hB] at hh
    injection hh with hh
    injection hh with _ h2
    exact hT h2
theorem str_bs (s : ByteArray) : Go.Lib.strCells s = bs (bl s) := by
  unfold Go.Lib.strCells bs bl
  rw [List.map_map]; rfl
/-- append of a string's bytes, for the walk -/
theorem wpList_append_js (w : World) {ops : Array Oper} {rest : List Oper} {o : Oper} {a : Act} {Q : Exit → Act → World → Prop} (hgd : o.guard = none) (s x : Operand)
    (ho : o.op = .call { callee := .builtin .append, args := #[s, x], argTypes := #[36, 9] })
    (base : Nat) (v : Value) (t : ByteArray) (l : List Nat) (hs : a.eval s = v) (hx : a.eval x = .string t) (hJ : JB w base v l) (R : List Nat) (hR : l ++ bl t = R) (hb : l.length + t.size ≤ 140737488355328) (hbase : base ≤ w.heap.size)
    (h : ∀ v' w', JB w' base v' R → w.grownBy w' v.ownBlock → wpList Try.prog ops Q rest (a.put o.dst v') w') : wpList Try.prog ops Q (o :: rest) a w := by
  subst hR
  obtain ⟨i0, hi, hz0, hz1, hz2⟩ := info_parts info_u8
  refine Go.Lib.wpList_append_own_string w hgd s x _ _ ho base 5 i0 Try.underlying36 Try.underlying9 hi hz0 hz1 hz2 v l.length (bs l) hs hJ.2 t hx (by unfold maxLen; omega) hb hbase ?_
  intro v' w' h1 h2 _
  refine h v' w' ⟨byt_app hJ.1 (bl_byt t), ?_⟩ h2
  rw [List.length_append, bl_len, ← bs_app, ← str_bs]
  exact h1
end Vt
end Go.Proofs.Ytnjhbidialngmaa
