/-
  THE WALKS OF bytes.Clone and (*file).cut.
-/
import Derived.Test.YtnakaomgceoobaaGreatDk7
namespace Go.Proofs.YtnakaomgceoobaaGreat
open Go.RowKit Go.Maps
namespace Dk
open Vt
attribute [local go_sem ↓] append_hid
theorem jb_empty (w : World) : JB (w.alloc (.cells #[] 5)) 0 (.slice (some ⟨w.heap.size, 0, none⟩) 0 0) [] :=
  ⟨byt_nil, rfl, .inr ⟨w.heap.size, 0, #[], rfl, Nat.zero_le _, (MapKept.heap_alloc w _).1, Nat.le_refl _, by decide, rfl, rfl⟩⟩
/-- what Clone leaves -/
def Cl (w : World) (l : List Nat) (e : Ending) (w' : World) : Prop := ∃ a' c', e = .returned (.slice a' l.length c') ∧ JB w' 0 (.slice a' l.length c') l ∧ w.grownBy w' none ∧ ∀ g, (Value.slice a' l.length c').ownBlock = some g → w.heap.size ≤ g
set_option maxRecDepth 100000 in
theorem clone_is (w : World) (v : Value) (l : List Nat) (hI : IsB w v l) (hl : l.length ≤ 140737488355328) : Calls Tryz.prog 28 #[v] w fun e w' => Cl w l e w' := by
  obtain ⟨a, c, rfl⟩ := hI.shape
  cases a with
  | none =>
    obtain rfl : l = [] := by
      obtain ⟨_, _, ⟨h, _⟩ | ⟨b, off, c', h, _⟩⟩ := hI
      · exact h
      · cases h
    have he : ∀ w : World, (binOp .eql 31 (.slice none 0 c) (.slice none 0 0)).run Tryz.prog w = .ok (.bool true) w := fun _ => rfl
    go_enter Tryz.func28, Tryz.ntmps28
    go_wp2_with fail
    go_ret
    exact ⟨none, 0, rfl, jb_nil _ _, World.grownBy.refl _ _, fun g q => by cases q⟩
  | some x =>
    have hI1 : IsB (w.alloc (.cells #[] 5)) (.slice (some x) l.length c) l := hI.below ((Below.refl _ w).alloc (Nat.le_refl _) _)
    obtain ⟨a', c', w1, hr, hJ1, hg1, hl1⟩ := run_append_jbl 31 (w.alloc (.cells #[] 5)) 0 _ _ [] l (jb_empty w) hI1 (by simpa using hl) (Nat.zero_le _)
    rw [append_hid] at hr
    simp only [List.length_nil, Nat.zero_add, List.nil_append] at hr hJ1 hl1
    have HJ : Hid (Cl w l (.returned (.slice a' l.length c')) w1) := by
      refine ⟨a', c', rfl, hJ1, ?_, fun g q => ?_⟩
      · refine ⟨hg1.os, hg1.tape, hg1.output, by have := hg1.size; rw [alloc_size] at this; omega, fun k hk _ => ?_⟩
        rw [hg1.block k (by rw [alloc_size]; omega) (fun q => by simp [Value.ownBlock] at q; omega)]
        exact (MapKept.heap_alloc w _).2 k hk
      · rcases hl1 g q with z | z
        · simp [Value.ownBlock] at z; omega
        · rw [alloc_size] at z; omega
    clear hJ1 hg1 hl1 hI hI1
    have he : ∀ w : World, (binOp .eql 31 (.slice (some x) l.length c) (.slice none 0 0)).run Tryz.prog w = .ok (.bool false) w := fun _ => rfl
    go_enter Tryz.func28, Tryz.ntmps28
    go_wp2_with fail
    go_ret
    exact HJ.out
/-! ### a slice's beginning, its end, min and max, as words of our own -/
def slO (t : TypeId) (x : Value) (lo hi mx : Option Value) : Sem Value := Instr.slice t x lo hi mx
theorem slice_hid (t : TypeId) (x : Value) (lo hi mx : Option Value) : Instr.slice t x lo hi mx = slO t x lo hi mx := rfl
def mnO (ts : Array TypeId) (t : TypeId) (a : Array Value) : Sem Value := Builtin.min_ ts t a
theorem min_hid (ts : Array TypeId) (t : TypeId) (a : Array Value) : Builtin.min_ ts t a = mnO ts t a := rfl
def mxO (ts : Array TypeId) (t : TypeId) (a : Array Value) : Sem Value := Builtin.max_ ts t a
theorem max_hid (ts : Array TypeId) (t : TypeId) (a : Array Value) : Builtin.max_ ts t a = mxO ts t a := rfl
theorem run_mnO (ts : Array TypeId) (t : TypeId) (x y : Int) (z : Int) (hz : z = if y < x then y else x) (w : World) : (mnO ts t #[.int .i64 x, .int .i64 y]).run Tryz.prog w = .ok (.int .i64 z) w := by
  rw [hz]; exact run_min_int2 w ts t .i64 .i64 x y
theorem run_mxO (ts : Array TypeId) (t : TypeId) (x y : Int) (z : Int) (hz : z = if y > x then y else x) (w : World) : (mxO ts t #[.int .i64 x, .int .i64 y]).run Tryz.prog w = .ok (.int .i64 z) w := by
  rw [hz]; exact run_max_int2 w ts t .i64 .i64 x y
theorem elem8 : Tryz.prog.elem 31 = 5 := by kernel_rfl
theorem size8 (w : World) : (sizeOf 5).run Tryz.prog w = .ok 1 w := by kernel_rfl
/-- of a list the elements from k on -/
theorem run_slO_from {w0 : World} {base : Nat} {v : Value} {l : List Nat} (hJ : JB w0 base v l) (k : Nat) (hk : k ≤ l.length) : ∃ va vc, (∀ w, (slO 31 v (some (.int .i64 (k : Int))) none none).run Tryz.prog w = .ok (.slice va (l.length - k) vc) w) ∧ IsB w0 (.slice va (l.length - k) vc) (l.drop k) := by
  have hB := hJ.isB
  obtain ⟨a, c, rfl, hlc⟩ := hJ.shape
  have hr : ∀ w, (slO 31 (.slice a l.length c) (some (.int .i64 (k : Int))) none none).run Tryz.prog w = .ok (sliced a k l.length c 1) w := by
    intro w
    have := run_slice_l (P := Tryz.prog) w 31 a l.length c (by rw [elem8]; exact Tryz.underlying31) .i64 (k : Int) (by omega) (by omega)
    rw [elem8, size8] at this
    exact this
  refine ⟨_, _, hr, ?_⟩
  cases a with
  | none =>
    have hl0 : l = [] := by
      obtain ⟨_, _, ⟨h, _⟩ | ⟨b, off, c', h, _⟩⟩ := hB
      · exact h
      · cases h
    subst hl0
    have : k = 0 := by simpa using hk
    subst this
    simp only [List.length_nil, Nat.sub_zero, List.drop_nil]
    exact isK_nil _ _ _ _ _
  | some x =>
    obtain ⟨g, rfl⟩ : ∃ g, x = ⟨g, 0, none⟩ := by
      obtain ⟨_, _, ⟨q, _⟩ | ⟨g', cap, cur, q, _⟩⟩ := hJ
      · cases q
      · injection q with q; injection q with q; exact ⟨_, q⟩
    have := hB.dropIf k hk hlc
    simp only [Option.map_some, Nat.mul_one, add_at]
    exact this
/-- of a list the first k elements -/
theorem run_slO_to {w0 : World} {a : Option Addr} {c : Nat} {l : List Nat} (hB : IsB w0 (.slice a l.length c) l) (hc : l.length ≤ c) (k : Nat) (hk : k ≤ l.length) : (∀ w, (slO 31 (.slice a l.length c) none (some (.int .i64 (k : Int))) none).run Tryz.prog w = .ok (.slice a k c) w) ∧ IsB w0 (.slice a k c) (l.take k) := by
  refine ⟨fun w => ?_, hB.take k hk⟩
  have := run_slice_h (P := Tryz.prog) w 31 a l.length c (by rw [elem8]; exact Tryz.underlying31) .i64 (k : Int) (by omega) (by omega)
  rw [elem8, size8] at this
  have e : (if c = 0 then a else a.map (·.add (0 * 1))) = a := by
    cases a with
    | none => split <;> rfl
    | some x =>
      split
      · rfl
      · rw [Nat.zero_mul]; simp [Addr.add]
  have e2 : sliced a 0 ((k : Int)).toNat c 1 = .slice a k c := by
    unfold sliced
    rw [e, Int.toNat_natCast, Nat.sub_zero, Nat.sub_zero]
  rw [← e2]
  exact this
end Dk
end Go.Proofs.YtnakaomgceoobaaGreat
