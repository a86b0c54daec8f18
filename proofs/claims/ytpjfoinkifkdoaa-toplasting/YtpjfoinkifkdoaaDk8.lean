/-
  THE WALKS OF bytes.Clone and (*file).cut.
-/
import Derived.Test.YtpjfoinkifkdoaaDk7
namespace Go.Proofs.Ytpjfoinkifkdoaa
open Go.RowKit Go.Maps
namespace Dk
open Vt
attribute [local go_sem ↓] append_hid
theorem jb_empty (w : World) : JB (w.alloc (.cells #[] 5)) 0 (.slice (some ⟨w.heap.size, 0, none⟩) 0 0) [] :=
  ⟨byt_nil, rfl, .inr ⟨w.heap.size, 0, #[], rfl, Nat.zero_le _, (MapKept.heap_alloc w _).1, Nat.le_refl _, by decide, rfl, rfl⟩⟩
/-- what Clone leaves -/
def Cl (w : World) (l : List Nat) (e : Ending) (w' : World) : Prop := ∃ a' c', e = .returned (.slice a' l.length c') ∧ JB w' 0 (.slice a' l.length c') l ∧ w.grownBy w' none ∧ ∀ g, (Value.slice a' l.length c').ownBlock = some g → w.heap.size ≤ g
set_option maxRecDepth 100000 in
theorem clone_is (w : World) (v : Value) (l : List Nat) (hI : IsB w v l) (hl : l.length ≤ 140737488355328) : Calls Try.prog 16 #[v] w fun e w' => Cl w l e w' := by
  obtain ⟨a, c, rfl⟩ := hI.shape
  cases a with
  | none =>
    obtain rfl : l = [] := by
      obtain ⟨_, _, ⟨h, _⟩ | ⟨b, off, c', h, _⟩⟩ := hI
      · exact h
      · cases h
    have he : ∀ w : World, (binOp .eql 27 (.slice none 0 c) (.slice none 0 0)).run Try.prog w = .ok (.bool true) w := fun _ => rfl
    go_enter Try.func16, Try.ntmps16
    go_wp2_with fail
    go_ret
    exact ⟨none, 0, rfl, jb_nil _ _, World.grownBy.refl _ _, fun g q => by cases q⟩
  | some x =>
    have hI1 : IsB (w.alloc (.cells #[] 5)) (.slice (some x) l.length c) l := hI.below ((Below.refl _ w).alloc (Nat.le_refl _) _)
    obtain ⟨a', c', w1, hr, hJ1, hg1, hl1⟩ := run_append_jbl 27 (w.alloc (.cells #[] 5)) 0 _ _ [] l (jb_empty w) hI1 (by simpa using hl) (Nat.zero_le _)
    rw [append_hid] at hr
    simp only [List.length_nil, Nat.zero_add, List.nil_append] at hr hJ1 hl1
    have HJ : Hid (Cl w l (.returned (.slice a' l.length c')) w1) := by
      refine ⟨a', c', rfl, hJ1, ?_, fun g q => ?_⟩
      · refine ⟨hg1.os, hg1.tape, hg1.output, by have := hg1.size; rw [alloc_size] at this; omega, fun k hk _ => ?_⟩
        rw [hg1.block k (by rw [alloc_size]; omega) (fun q => by simp [Value.ownBlock] at q; omega)]
        exact (MapKept.heap_alloc w _).2 k hk
      · rcases hl1 g q with z | z
        · simp [Value.ownBlock] at z; omega
        · rw [alloc_size] at z; omega
    clear hJ1 hg1 hl1 hI hI1
    have he : ∀ w : World, (binOp .eql 27 (.slice (some x) l.length c) (.slice none 0 0)).run Try.prog w = .ok (.bool false) w := fun _ => rfl
    go_enter Try.func16, Try.ntmps16
    go_wp2_with fail
    go_ret
    exact HJ.out
set_option maxRecDepth 100000 in
theorem cut_is (w : World) (fb : Nat) (v : Value) (dat : List Nat) (las n : Nat) (hb : Blk w fb TF [v, .int .i64 (las : Int)]) (hJ : JB w 0 v dat) (hn : n ≤ dat.length) (hl : dat.length ≤ 140737488355328) :
    Calls Try.prog 25 #[.pointer (some ⟨fb, 0, none⟩), .int .i64 (n : Int)] w fun e w' => (∃ u, e = .returned u) ∧ ∃ v', Blk w' fb TF [v', .int .i64 ((min las n : Nat) : Int)] ∧ JB w' 0 v' (dat.take n) ∧ Tr (fun b => b = fb) w w' ∧ ∀ g, v'.ownBlock = some g → w.heap.size ≤ g := by
  obtain ⟨a, c, rfl, hlc⟩ := hJ.shape
  have hlen : (dat.take n).length = n := by rw [List.length_take]; omega
  have HC := hd (clone_is w (.slice a n c) (dat.take n) (hJ.isB.take n hn) (by omega))
  have c0 := hb.cell 0 _ rfl
  have HB := hd hb
  have hcm : c ≤ 2 ^ 63 - 1 := by
    obtain ⟨_, _, ⟨q2, _⟩ | ⟨g', cap, cur, q2, _, _, _, q5, _⟩⟩ := hJ
    · injection q2 with _ _ q2; omega
    · injection q2 with _ _ q2; unfold maxLen at q5; omega
  clear hb
  go_enter Try.func25, Try.ntmps25
  go_wp2_with fail
  refine Calls.mono HC.out ?_
  rintro e w1 ⟨a', c', rfl, hJ1, hg1, hl1⟩
  rw [hlen] at hJ1 hl1 ⊢
  have hb1 := HB.out.grown hg1 (by simp)
  have d0 := hb1.cell 0 _ rfl
  have g0 := hb1.frozen 0
  have d1 := hb1.cell 1 _ rfl
  have g1 := hb1.frozen 1
  have HJ1 := hd hJ1
  have HG1 := hd hg1
  have HL1 := hd hl1
  have HB1 := hd hb1
  clear hJ1 hg1 hl1 hb1
  have FIN : ∀ k : Nat, k = min las n → (∃ v', Blk ((w1.setCell ⟨fb, 0, none⟩ (.slice a' n c')).setCell ⟨fb, 1, none⟩ (.int .i64 (k : Int))) fb TF [v', .int .i64 ((min las n : Nat) : Int)] ∧ JB ((w1.setCell ⟨fb, 0, none⟩ (.slice a' n c')).setCell ⟨fb, 1, none⟩ (.int .i64 (k : Int))) 0 v' (dat.take n) ∧ Tr (fun b => b = fb) w ((w1.setCell ⟨fb, 0, none⟩ (.slice a' n c')).setCell ⟨fb, 1, none⟩ (.int .i64 (k : Int))) ∧ ∀ g, v'.ownBlock = some g → w.heap.size ≤ g) := by
    rintro k rfl
    refine ⟨.slice a' n c', (HB1.out.set _).set _, JB.same HJ1.out fun g hg => ?_, ?_, HL1.out⟩
    · have := jb_ne HJ1.out hg HB1.out (by decide)
      rw [set_heap _ _ _ _ _ this, set_heap _ _ _ _ _ this]
    · exact (Tr.grown (O := fun b => b = fb) HG1.out (fun k q => by cases q)).trans ((Tr.set (O := fun b => b = fb) (p := ⟨fb, 0, none⟩) rfl _).trans (Tr.set (O := fun b => b = fb) (p := ⟨fb, 1, none⟩) rfl _) fun x q => .inl q) fun x q => .inl q
  have HFIN := hd FIN
  clear FIN hlen
  go_wp2_with fail
  · go_end0
    exact ⟨⟨_, rfl⟩, HFIN.out n (by omega)⟩
  · go_end0
    exact ⟨⟨_, rfl⟩, HFIN.out las (by omega)⟩
/-! ### a slice's beginning, its end, min and max, as words of our own -/
def slO (t : TypeId) (x : Value) (lo hi mx : Option Value) : Sem Value := Instr.slice t x lo hi mx
theorem slice_hid (t : TypeId) (x : Value) (lo hi mx : Option Value) : Instr.slice t x lo hi mx = slO t x lo hi mx := rfl
def mnO (ts : Array TypeId) (t : TypeId) (a : Array Value) : Sem Value := Builtin.min_ ts t a
theorem min_hid (ts : Array TypeId) (t : TypeId) (a : Array Value) : Builtin.min_ ts t a = mnO ts t a := rfl
def mxO (ts : Array TypeId) (t : TypeId) (a : Array Value) : Sem Value := Builtin.max_ ts t a
theorem max_hid (ts : Array TypeId) (t : TypeId) (a : Array Value) : Builtin.max_ ts t a = mxO ts t a := rfl
theorem run_mnO (ts : Array TypeId) (t : TypeId) (x y : Int) (z : Int) (hz : z = if y < x then y else x) (w : World) : (mnO ts t #[.int .i64 x, .int .i64 y]).run Try.prog w = .ok (.int .i64 z) w := by
  rw [hz]; exact run_min_int2 w ts t .i64 .i64 x y
theorem run_mxO (ts : Array TypeId) (t : TypeId) (x y : Int) (z : Int) (hz : z = if y > x then y else x) (w : World) : (mxO ts t #[.int .i64 x, .int .i64 y]).run Try.prog w = .ok (.int .i64 z) w := by
  rw [hz]; exact run_max_int2 w ts t .i64 .i64 x y
theorem elem8 : Try.prog.elem 27 = 5 := by kernel_rfl
theorem size8 (w : World) : (sizeOf 5).run Try.prog w = .ok 1 w := by kernel_rfl
/-- of a list the elements from k on -/
theorem run_slO_from {w0 : World} {base : Nat} {v : Value} {l : List Nat} (hJ : JB w0 base v l) (k : Nat) (hk : k ≤ l.length) : ∃ va vc, (∀ w, (slO 27 v (some (.int .i64 (k : Int))) none none).run Try.prog w = .ok (.slice va (l.length - k) vc) w) ∧ IsB w0 (.slice va (l.length - k) vc) (l.drop k) := by
  have hB := hJ.isB
  obtain ⟨a, c, rfl, hlc⟩ := hJ.shape
  have hr : ∀ w, (slO 27 (.slice a l.length c) (some (.int .i64 (k : Int))) none none).run Try.prog w = .ok (sliced a k l.length c 1) w := by
    intro w
    have := run_slice_l (P := Try.prog) w 27 a l.length c (by rw [elem8]; exact Try.underlying27) .i64 (k : Int) (by omega) (by omega)
    rw [elem8, size8] at this
    exact this
  refine ⟨_, _, hr, ?_⟩
  cases a with
  | none =>
    have hl0 : l = [] := by
      obtain ⟨_, _, ⟨h, _⟩ | ⟨b, off, c', h, _⟩⟩ := hB
      · exact h
      · cases h
    subst hl0
    have : k = 0 := by simpa using hk
    subst this
    simp only [List.length_nil, Nat.sub_zero, List.drop_nil]
    exact isK_nil _ _ _ _ _
  | some x =>
    obtain ⟨g, rfl⟩ : ∃ g, x = ⟨g, 0, none⟩ := by
      obtain ⟨_, _, ⟨q, _⟩ | ⟨g', cap, cur, q, _⟩⟩ := hJ
      · cases q
      · injection q with q; injection q with q; exact ⟨_, q⟩
    have := hB.dropIf k hk hlc
    simp only [Option.map_some, Nat.mul_one, add_at]
    exact this
/-- of a list the first k elements -/
theorem run_slO_to {w0 : World} {a : Option Addr} {c : Nat} {l : List Nat} (hB : IsB w0 (.slice a l.length c) l) (hc : l.length ≤ c) (k : Nat) (hk : k ≤ l.length) : (∀ w, (slO 27 (.slice a l.length c) none (some (.int .i64 (k : Int))) none).run Try.prog w = .ok (.slice a k c) w) ∧ IsB w0 (.slice a k c) (l.take k) := by
  refine ⟨fun w => ?_, hB.take k hk⟩
  have := run_slice_h (P := Try.prog) w 27 a l.length c (by rw [elem8]; exact Try.underlying27) .i64 (k : Int) (by omega) (by omega)
  rw [elem8, size8] at this
  have e : (if c = 0 then a else a.map (·.add (0 * 1))) = a := by
    cases a with
    | none => split <;> rfl
    | some x =>
      split
      · rfl
      · rw [Nat.zero_mul]; simp [Addr.add]
  have e2 : sliced a 0 ((k : Int)).toNat c 1 = .slice a k c := by
    unfold sliced
    rw [e, Int.toNat_natCast, Nat.sub_zero, Nat.sub_zero]
  rw [← e2]
  exact this
end Dk
end Go.Proofs.Ytpjfoinkifkdoaa
