/-
  THE WALKS OF bytes.Compare, cmp.Compare, cmp.Or: lists of bytes in order.
-/
import Derived.Test.YtfaoemmkcmijfabA0
import Derived.Lib.BytesEntry
import Derived.Lib.Bytealg
namespace Go.Proofs.Ytfaoemmkcmijfab
open Go.RowKit
namespace Vt
/-- byte by byte -/
def cb : List Nat → List Nat → Int
  | [], [] => 0
  | [], _ :: _ => -1
  | _ :: _, [] => 1
  | a :: r, b :: s => if a < b then -1 else if b < a then 1 else cb r s
theorem cb_is {a b : List Nat} (ha : Byt a) (hb : Byt b) : Lib.compareBytes (Lib.bytesOf (a.map fun x => ((x : Nat) : Int))) (Lib.bytesOf (b.map fun x => ((x : Nat) : Int))) = cb a b := by
  have key : ∀ {x y : Nat}, x < 256 → y < 256 → ((x.toUInt8 < y.toUInt8) ↔ x < y) := by
    intro x y hx hy
    rw [UInt8.lt_iff_toNat_lt]
    simp
    omega
  induction a generalizing b with
  | nil => cases b <;> rfl
  | cons x a ih =>
    cases b with
    | nil => rfl
    | cons y b =>
      have hx := ha x List.mem_cons_self
      have hy := hb y List.mem_cons_self
      have := ih (fun z hz => ha z (List.mem_cons_of_mem _ hz)) (b := b) (fun z hz => hb z (List.mem_cons_of_mem _ hz))
      rw [show Lib.bytesOf ((x :: a).map fun x => ((x : Nat) : Int)) = x.toUInt8 :: Lib.bytesOf (a.map fun x => ((x : Nat) : Int)) by simp [Lib.bytesOf], show Lib.bytesOf ((y :: b).map fun x => ((x : Nat) : Int)) = y.toUInt8 :: Lib.bytesOf (b.map fun x => ((x : Nat) : Int)) by simp [Lib.bytesOf], Lib.compareBytes, cb, this]
      by_cases h : x < y
      · rw [if_pos ((key hx hy).2 h), if_pos h]
      · rw [if_neg (fun q => h ((key hx hy).1 q)), if_neg h]
        by_cases h2 : y < x
        · rw [if_pos ((key hy hx).2 h2), if_pos h2]
        · rw [if_neg (fun q => h2 ((key hy hx).1 q)), if_neg h2]
theorem bytesOf_is {w : World} {v : Value} {l : List Nat} (h : IsB w v l) : (Extern.Bytes.bytesOf v).run Try.prog w = .ok ⟨(Lib.bytesOf (l.map fun x => ((x : Nat) : Int))).toArray⟩ w := by
  obtain ⟨a, c, rfl⟩ := h.shape
  cases a with
  | none =>
    obtain ⟨_, _, ⟨rfl, a', c', e⟩ | ⟨b, off, c', e, _⟩⟩ := h
    · rfl
    · cases e
  | some ad =>
    obtain ⟨_, _, ⟨rfl, a', c', e⟩ | ⟨b, off, c', e, _, _, _, hr⟩⟩ := h
    · rfl
    · injection e with e1 e2 e3
      injection e1 with e1
      subst e1
      have hl := Lib.run_loadBytesX (P := Try.prog) w (l.map fun x => ((x : Nat) : Int)) ⟨b, off, none⟩ .empty (fun j x hj => by
        have hjl : j < l.length := by have := (List.getElem?_eq_some_iff.1 hj).1; simpa using this
        rw [add_at, hr j hjl, List.getD_eq_getElem?_getD, List.getElem?_eq_getElem hjl]
        simp [List.getElem?_eq_getElem hjl] at hj
        rw [← hj]; rfl)
      rw [List.length_map] at hl
      have he : (⟨ByteArray.empty.data ++ (Lib.bytesOf (l.map fun x => ((x : Nat) : Int))).toArray⟩ : ByteArray) = ⟨(Lib.bytesOf (l.map fun x => ((x : Nat) : Int))).toArray⟩ := by
        apply ByteArray.ext
        show (#[] : Array UInt8) ++ _ = _
        simp
      rw [he] at hl
      exact hl
theorem run_cmp {w : World} {v u : Value} {l r : List Nat} (h1 : IsB w v l) (h2 : IsB w u r) : (Extern.BytealgCompare.compare #[v, u]).run Try.prog w = .ok (.int .i64 (cb l r)) w := by
  change Sem.run Try.prog (do pure (goInt (Extern.BytealgCompare.cmp (← Extern.Bytes.bytesOf v) (← Extern.Bytes.bytesOf u)))) w = _
  simp only [Sem.run_bind, bytesOf_is h1, bytesOf_is h2, Result.andThen_ok, Sem.run_pure]
  rw [Lib.cmp_eq]
  show Result.ok (goInt (Lib.compareBytes _ _)) w = _
  rw [show (Lib.bytesOf (l.map fun x => ((x : Nat) : Int))).toArray.toList = Lib.bytesOf (l.map fun x => ((x : Nat) : Int)) by simp, show (Lib.bytesOf (r.map fun x => ((x : Nat) : Int))).toArray.toList = Lib.bytesOf (r.map fun x => ((x : Nat) : Int)) by simp, cb_is h1.1 h2.1]
  rfl
set_option maxRecDepth 100000 in
set_option maxHeartbeats 400000 in
theorem bcompare_is (v u : Value) (l r : List Nat) (w : World) (h1 : IsB w v l) (h2 : IsB w u r) :
    Calls Try.prog 20 #[v, u] w fun e w' => e = .returned (.int .i64 (cb l r)) ∧ w' = w := by
  have hr := run_cmp h1 h2
  obtain ⟨a, c, rfl⟩ := h1.shape
  obtain ⟨a', c', rfl⟩ := h2.shape
  clear h1 h2
  go_enter Try.func20, Try.ntmps20
  go_wp2
  rw [run_callFunc_extern Try.func31 (by kernel_rfl) (by kernel_rfl) (by kernel_rfl) (e := Extern.BytealgCompare.compare) (by kernel_rfl), hr]
  simp only [Result.andThen]
  rw [Oper.upon_value]
  go_wp2
  go_ret
  exact ⟨rfl, rfl⟩
def c64 (a b : Nat) : Int := if a < b then -1 else if b < a then 1 else 0
set_option maxRecDepth 100000 in
set_option maxHeartbeats 400000 in
theorem nan_is (a : Nat) (w : World) : Calls Try.prog 30 #[.int .u64 (a : Int)] w fun e w' => e = .returned (.bool false) ∧ w' = w := by
  have q : ((a : Int) != (a : Int)) = false := by simp
  go_enter Try.func30, Try.ntmps30
  go_wp2
  go_ret
  exact ⟨rfl, rfl⟩
set_option maxRecDepth 100000 in
set_option maxHeartbeats 400000 in
theorem c64_is (a b : Nat) (w : World) : Calls Try.prog 19 #[.int .u64 (a : Int), .int .u64 (b : Int)] w fun e w' => e = .returned (.int .i64 (c64 a b)) ∧ w' = w := by
  unfold c64
  by_cases h : a < b
  · rw [if_pos h]
    go_enter Try.func19, Try.ntmps19
    go_wp2_with (go_at_call 30; refine Calls.mono (nan_is _ _) ?_; rintro e w' ⟨rfl, rfl⟩)
    go_ret
    exact ⟨rfl, rfl⟩
  · rw [if_neg h]
    by_cases h2 : b < a
    · rw [if_pos h2]
      go_enter Try.func19, Try.ntmps19
      go_wp2_with (go_at_call 30; refine Calls.mono (nan_is _ _) ?_; rintro e w' ⟨rfl, rfl⟩)
      go_ret
      exact ⟨rfl, rfl⟩
    · rw [if_neg h2]
      go_enter Try.func19, Try.ntmps19
      go_wp2_with (go_at_call 30; refine Calls.mono (nan_is _ _) ?_; rintro e w' ⟨rfl, rfl⟩)
      go_ret
      exact ⟨rfl, rfl⟩
def orv (x y : Int) : Int := if x = 0 then y else x
set_option maxRecDepth 100000 in
set_option maxHeartbeats 400000 in
theorem or_is (x y : Int) (N : Nat) (w : World) (h0 : w.cell? ⟨N, 0, none⟩ = some (.int .i64 x)) (h1 : w.cell? ⟨N, 1, none⟩ = some (.int .i64 y)) :
    Calls Try.prog 18 #[.slice (some ⟨N, 0, none⟩) 2 2] w fun e w' => e = .returned (.int .i64 (orv x y)) ∧ w' = w := by
  unfold orv
  by_cases hx : x = 0
  · subst hx
    rw [if_pos rfl]
    by_cases hy : y = 0
    · subst hy
      go_enter Try.func18, Try.ntmps18
      go_wp2_with fail
      refine wp_loop_rounds 3 ?_
      rw [rounds_succ]
      go_wp2
      rw [rounds_succ]
      go_wp2
      rw [rounds_succ]
      go_wp2
      go_ret
      exact ⟨rfl, rfl⟩
    · have q : (y != 0) = true := by simpa using hy
      go_enter Try.func18, Try.ntmps18
      go_wp2_with fail
      refine wp_loop_rounds 3 ?_
      rw [rounds_succ]
      go_wp2
      rw [rounds_succ]
      go_wp2
      go_ret
      exact ⟨rfl, rfl⟩
  · rw [if_neg hx]
    have q : (x != 0) = true := by simpa using hx
    go_enter Try.func18, Try.ntmps18
    go_wp2_with fail
    refine wp_loop_rounds 3 ?_
    rw [rounds_succ]
    go_wp2
    go_ret
    exact ⟨rfl, rfl⟩
end Vt
end Go.Proofs.Ytfaoemmkcmijfab
