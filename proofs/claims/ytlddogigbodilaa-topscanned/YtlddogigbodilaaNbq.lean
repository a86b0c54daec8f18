/-
  hint's small functions: hasRecord, pointerTo.
-/
import Derived.Test.YtlddogigbodilaaNai
namespace Go.Proofs.Ytlddogigbodilaa
open Go.RowKit
namespace Vt
attribute [local go_sem] Oper.semAt_some
/-- is a frame a record's? -/
def isRec (f : Fr) : Bool := decide (f.kind = 1) || decide (f.kind = 2)
set_option maxRecDepth 100000 in
set_option maxHeartbeats 1000000 in
theorem hasRecord_is (f : Fr) (w : World) : Calls Try.prog 62 #[.agg (fv f)] w fun e w' => e = .returned (.bool (isRec f)) ∧ Below w.heap.size w w' := by
  obtain ⟨k, ⟨rl, rk, rkey, rval⟩, ⟨pl, pk, pa, pn, pkey⟩, ⟨ec, eb, ef, es⟩⟩ := f
  simp only [fv]
  by_cases h1 : k = 1
  · subst h1
    go_enter Try.func62, Try.ntmps62
    go_wp2
    go_ret
    exact ⟨rfl, (Below.refl _ _).alloc (Nat.le_refl _) _⟩
  · by_cases h2 : k = 2
    · subst h2
      go_enter Try.func62, Try.ntmps62
      go_wp2
      go_ret
      exact ⟨rfl, (Below.refl _ _).alloc (Nat.le_refl _) _⟩
    · have e1 : (k == 1) = false := by simp [h1]
      have e2 : (k == 2) = false := by simp [h2]
      have HR := hd (show isRec ⟨k, ⟨rl, rk, rkey, rval⟩, ⟨pl, pk, pa, pn, pkey⟩, ⟨ec, eb, ef, es⟩⟩ = false by unfold isRec; simp [h1, h2])
      go_enter Try.func62, Try.ntmps62
      go_wp2
      go_ret
      exact ⟨by rw [HR.out]; rfl, (Below.refl _ _).alloc (Nat.le_refl _) _⟩
/-- a pointer's cells -/
def pv (p : Ptr) : Array Value := #[.int .u64 (p.lsn : Int), .int .i64 p.kind, .int .i64 p.at_, .int .i64 p.len, .string p.key]
/-- an ending's cells -/
def ev (e : Edg) : Array Value := #[.int .i64 e.count, .int .i64 e.bytes, .int .i64 e.frames, .int .u32 (e.sum : Int)]
/-- the cells of a frame with a place and a length -/
def lfv (f : Fr) (at_ len : Int) : Array Value := #[.int .i64 f.kind, .int .u64 (f.r.lsn : Int), .int .i64 f.r.kind, .string f.r.key, .string f.r.val, .int .u64 (f.p.lsn : Int), .int .i64 f.p.kind, .int .i64 f.p.at_, .int .i64 f.p.len, .string f.p.key, .int .i64 f.e.count, .int .i64 f.e.bytes, .int .i64 f.e.frames, .int .u32 (f.e.sum : Int), .int .i64 at_, .int .i64 len]
/-- the pointer to a frame at a place -/
def ptr (f : Fr) (at_ len : Int) : Ptr := ⟨f.r.lsn, f.r.kind, at_, len, f.r.key⟩
set_option maxRecDepth 100000 in
set_option maxHeartbeats 1000000 in
theorem pointerTo_is (f : Fr) (at_ len : Int) (w : World) : Calls Try.prog 64 #[.agg (lfv f at_ len)] w fun e w' => e = .returned (.agg (pv (ptr f at_ len))) ∧ Below w.heap.size w w' := by
  obtain ⟨k, ⟨rl, rk, rkey, rval⟩, ⟨pl, pk, pa, pn, pkey⟩, ⟨ec, eb, ef, es⟩⟩ := f
  simp only [lfv]
  go_enter Try.func64, Try.ntmps64
  go_wp2
  refine bodyPost_ret (results_cell_row rfl _ _ (w.heap.size + 1) 34 _ (0, 0) _ rfl ((Below.heap_alloc _ _ _ (by simp)).trans (heap_two _ _ _)) Try.underlying34 rfl (by kernel_rfl)) rfl ?_
  exact ⟨rfl, (((Below.refl _ _).alloc (Nat.le_refl _) _).alloc (by simp) _).alloc (by simp; omega) _⟩
end Vt
end Go.Proofs.Ytlddogigbodilaa
