/-
  What ScanFrames' walk wants: between two rounds of a range; the list with other bytes; a region's slots one by one.
-/
import Derived.Test.YtlddogigbodilaaQbh
import Derived.Test.YtlddogigbodilaaQca
import Derived.Test.YtlddogigbodilaaQbd
namespace Go.Proofs.Ytlddogigbodilaa
open Go.ChangeShapes Go.WideShapes Go.ChangeAt Go.RowKit Go.Shelf
namespace Vt
attribute [local go_sem] Oper.semAt_some
theorem run_store_func (P : Program) (w : World) (a : Addr) (m : Mode) (f : Fn) (x y : Array Value) : (store a (.func f x y) m).run P w = stored P w a (.func f x y) m := run_store P w a _ m rfl
attribute [local go_sem] run_store_func
def lcF (x : Lc) : Nat × Fr := (x.1, x.2.2)
/-- all that lies below S but the counter's box -/
def ButP (P S : Nat) (k : Nat) : Prop := k < S ∧ k ≠ P
/-- between two rounds of a range: the counter, what was told, what was kept -/
def SfJ (P S : Nat) (V1 : World) (ks : List (Nat × Fr)) {B : Nat} (pre : List (PL B)) (X : Nat → Prop) (U : World) : Prop :=
  Boxed U P 3 (.int .i64 (pre.length : Int)) ∧ pre.map (fun x => lcF x.1) <+: ks ∧ KeepS (ButP P S) V1 U ∧ S ≤ U.heap.size ∧ (∀ k, X k → S ≤ k)
theorem sfJ_abides {P S : Nat} {V1 : World} {ks : List (Nat × Fr)} (hP : P < S) {B : Nat} : AbidesX S (SfJ P S V1 ks (B := B)) := by
  rintro s X X' V V' ⟨h0, h1, h2, h3, h4⟩ ht hX
  refine ⟨boxed_turned h0 ht (fun x => by have := h4 _ x; omega), h1, keepS_turned h2 ht (fun k hk => ⟨hk.1, fun hx => by have := h4 _ hx; have := hk.1; omega, by have := hk.1; omega⟩), Nat.le_trans h3 ht.size, fun k hk => ?_⟩
  rcases hX k hk with h | h
  · exact h4 k h
  · omega
/-- a range left early: with a wrong answer, or by the break -/
def SfX (P S : Nat) (V1 : World) (ks : List (Nat × Fr)) (z : Int) {B : Nat} (c : Code) (pre : List (PL B)) (X : Nat → Prop) (U : World) : Prop :=
  (c = .ret ∧ ¬ pre.map (fun x => lcF x.1) <+: ks) ∨ (c = .exit 0 ∧ Boxed U P 3 (.int .i64 z) ∧ KeepS (ButP P S) V1 U ∧ S ≤ U.heap.size ∧ (∀ k, X k → S ≤ k))
theorem sfX_abides {P S : Nat} {V1 : World} {ks : List (Nat × Fr)} {z : Int} (hP : P < S) {B : Nat} (c : Code) : AbidesX S (SfX P S V1 ks z (B := B) c) := by
  rintro s X X' V V' (g | ⟨hc, h0, h2, h3, h4⟩) ht hX
  · exact .inl g
  refine .inr ⟨hc, boxed_turned h0 ht (fun x => by have := h4 _ x; omega), keepS_turned h2 ht (fun k hk => ⟨hk.1, fun hx => by have := h4 _ hx; have := hk.1; omega, by have := hk.1; omega⟩), Nat.le_trans h3 ht.size, fun k hk => ?_⟩
  rcases hX k hk with h | h
  · exact h4 k h
  · omega
theorem ko_belowF {U w : World} (h : Below U.heap.size U w) : KeepsOthers U w := ⟨h.size, fun k _ hk _ => (h.block k (Array.getElem?_eq_some_iff.1 hk).1).trans hk⟩
/-- between two rounds of a range over nothing -/
def SfK (S : Nat) (V1 : World) {B : Nat} (_ : List (PL B)) (X : Nat → Prop) (U : World) : Prop := KeepS (fun k => k < S) V1 U ∧ S ≤ U.heap.size ∧ (∀ k, X k → S ≤ k)
theorem sfK_abides {S : Nat} {V1 : World} {B : Nat} : AbidesX S (SfK S V1 (B := B)) := by
  rintro s X X' V V' ⟨h2, h3, h4⟩ ht hX
  refine ⟨keepS_turned h2 ht (fun k hk => ⟨hk, fun hx => by have := h4 _ hx; omega, by omega⟩), Nat.le_trans h3 ht.size, fun k hk => ?_⟩
  rcases hX k hk with h | h
  · exact h4 k h
  · omega
theorem beside_locs : locs 0 [167, 0, 0, 0] = [] := by
  have hb : Byt [167, 0, 0, 0] := by intro x hx; simp at hx; omega
  cases h : locs 0 [167, 0, 0, 0] with
  | nil => rfl
  | cons x r =>
    have := locs_len hb _ (Nat.le_refl _) 0
    rw [h] at this
    simp only [List.length_cons, List.length_nil] at this
    omega
set_option maxRecDepth 100000 in
set_option maxHeartbeats 400000 in
theorem sturnedK_is (g cap m : Nat) (F : List Nat) (w : World) (hG : Buf w g cap F) (hm : m ≤ F.length) :
    Calls Try.prog 13 #[.slice (some ⟨g, 0, none⟩) m cap] w fun e w' => (∃ v, e = .returned v) ∧ (∃ F', F'.length = F.length ∧ Buf w' g cap F') ∧ KeepS (fun k => k ≠ g) w w' := by
  have HG := hd hG
  have hcm : F.length ≤ 9223372036854775807 := by have := hG.1; have := hG.2.1; unfold maxLen at this; omega
  clear hG
  go_enter Try.func13, Try.ntmps13
  go_wp2_with fail
  go_loopw [2] (fun i wr => ∃ k : Nat, k ≤ m ∧ i = .int .i64 (k : Int) ∧ (∃ F', F'.length = F.length ∧ Buf wr g cap F') ∧ KeepS (fun k => k ≠ g) w wr) (fun i _ => m - (intOf i).toNat)
  case atStart => exact ⟨0, by omega, rfl, ⟨F, rfl, HG.out⟩, KeepS.refl _⟩
  case round =>
    obtain ⟨k, hk, rfl, ⟨F', hF, hB'⟩, hB⟩ := hrel
    have HF := hd hB'
    have HB := hd hB
    clear hB' hB HG
    by_cases hlt : k < m
    · have hcell := HF.out.cell (j := k) (by omega)
      have hfro := HF.out.2.2.2.2.2 k (by omega)
      have hp := getD_lt HF.out.2.2.2.1 k
      obtain ⟨y, hy⟩ : ∃ y, y = 1 + k % 2 := ⟨_, rfl⟩
      have hy2 : y < 256 := by omega
      have HS := hd (HF.out.set (j := k) (y := F'.getD k 0 ^^^ y) (by omega) (Nat.xor_lt_two_pow (n := 8) hp hy2))
      have HX := hd (u8_xor_nat (F'.getD k 0) y hp hy2)
      generalize F'.getD k 0 = p at *
      have HY := hd hy
      clear hy
      go_wp2_with fail
      rw [show (1 : Int) + (k : Int) % 2 = (y : Int) by rw [HY.out]; omega, HX.out]
      go_roundw
      case rel => exact ⟨k + 1, by omega, by go_num, ⟨_, by rw [List.length_set]; exact hF, HS.out⟩, HB.out.setCell (p := ⟨g, k, none⟩) (fun h => h rfl) _⟩
      case measure => simp [intOf]; omega
    · obtain rfl : k = m := by omega
      go_wp2_with fail
      go_end0
      exact ⟨⟨_, rfl⟩, ⟨F', hF, HF.out⟩, HB.out⟩
theorem World.heap_size_setCellF (w : World) (p : Addr) (v : Value) : (w.setCell p v).heap.size = w.heap.size := by simp [World.setCell]
theorem put_otherF {W : World} {D D' : Nat} (h : W.heap[D']? = some (.deferred (some []))) (hne : D' ≠ D) : (W.putObj D (.deferred none)).heap[D']? = some (.deferred (some [])) := (World.putObj_heap_other hne).trans h
/-- the region's operations write the slots from lo on, one by one -/
def dstsSeq (ops : Array Oper) (lo : Nat) : Bool := (List.range ops.size).all fun j => dstOf ops j == some (lo + j)
theorem tmps_seq {ops : Array Oper} {a : Act} {t0 : Array Value} {lo : Nat} {vs : List Value} (hq : dstsSeq ops lo = true) (hn : vs.length = ops.size) (hs : a.tmps.size = t0.size) (hlo : Nat.ble (lo + vs.length) t0.size = true)
    (hout : ∀ k, (∀ j, j < ops.size → dstOf ops j ≠ some k) → a.tmps.getD k undef = t0.getD k undef) (hall : ∀ i, i < ops.size → slotOf ops a i = vs.getD i undef) :
    a.tmps = (t0.toList.take lo ++ (vs ++ t0.toList.drop (lo + vs.length))).toArray := by
  have hd : ∀ j, j < ops.size → dstOf ops j = some (lo + j) := fun j hj => by
    have := List.all_eq_true.1 hq j (by simpa using hj)
    simpa using this
  refine tmps_of hs ?_ (Nat.le_of_ble_eq_true hlo) hout fun i hi => ?_
  · refine List.all_eq_true.2 fun j hj => ?_
    have hj' : j < ops.size := by simpa using hj
    rw [hd j hj']
    simp only [Bool.and_eq_true, decide_eq_true_eq]
    omega
  · have := hall i (by omega)
    unfold slotOf at this
    rw [hd i (by omega)] at this
    exact this
theorem gF {a : Act} (k : Nat) {v : Value} (h : a.tmps.getD k undef = v) : a.tmps[k]?.getD undef = v := getq h
end Vt
end Go.Proofs.Ytlddogigbodilaa
