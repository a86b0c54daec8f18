/-
  WHAT EACH STEP DOES TO A DISK THAT IS UP, plainly.
-/
import Derived.Test.YtpjfoinkifkdoaaDkl
namespace Go.Proofs.Ytpjfoinkifkdoaa
namespace Tl
open Dk
/-- a step behind which the disk is up, as wide as before, one act older at most, with 500 bytes more at most -/
def Mv (S S' : Ds) : Prop := Ok S' ∧ S'.cap = S.cap ∧ S'.acts ≤ S.acts + 1 ∧ S'.used ≤ S.used + 500
theorem mv_same {S : Ds} (h : Ok S) : Mv S S := ⟨h, rfl, by omega, by omega⟩
theorem bar_ok {S : Ds} (h : Ok S) : bar S true = 0 := by unfold bar; rw [h.1]; rfl
theorem look_none {S : Ds} (h : Ok S) {s : ByteArray} (hs : isNm s = true) (hg : get S.fs s = none) : Dk.look S s true = 71 := by
  unfold Dk.look
  rw [hs, Bool.true_and, bar_ok h, if_neg (by simp), hg]; rfl
theorem look_some {S : Ds} (h : Ok S) {s : ByteArray} (hs : isNm s = true) {f : Fi} (hg : get S.fs s = some f) : Dk.look S s true = 0 := by
  unfold Dk.look
  rw [hs, Bool.true_and, bar_ok h, if_neg (by simp), hg]; rfl
theorem create_none {S : Ds} (h : Ok S) {s : ByteArray} (hs : isNm s = true) (hg : get S.fs s = none) : ∃ S', create S s = (0, S') ∧ S'.fs = S.fs ++ [⟨s, [], 0⟩] ∧ Mv S S' := by
  have hr : rCreate S s = 0 := by unfold rCreate; rw [hs, bar_ok h, if_neg (by simp), hg]; rfl
  refine ⟨gCreate s (tick S), ?_, rfl, ⟨h.tick.1, h.tick.2.1, h.tick.2.2⟩, rfl, Nat.le_refl _, Nat.le_add_right _ _⟩
  unfold create
  rw [actOf_ok h, hr, if_neg (by simp)]
theorem create_some {S : Ds} (h : Ok S) {s : ByteArray} (hs : isNm s = true) {f : Fi} (hg : get S.fs s = some f) : create S s = (72, S) := by
  have hr : rCreate S s = 72 := by unfold rCreate; rw [hs, bar_ok h, if_neg (by simp), hg]; rfl
  unfold create
  rw [actOf_ok h, hr, if_pos (by decide)]
theorem sync_none {S : Ds} (h : Ok S) {s : ByteArray} (hs : isNm s = true) (hg : get S.fs s = none) : sync S s = (71, S) := by
  unfold sync
  rw [actOf_ok h, look_none h hs hg, if_pos (by decide)]
theorem sync_some {S : Ds} (h : Ok S) {s : ByteArray} (hs : isNm s = true) {f : Fi} (hg : get S.fs s = some f) : ∃ S', sync S s = (0, S') ∧ S'.fs = upd S.fs s (fun f => { f with las := f.dat.length }) ∧ Mv S S' := by
  refine ⟨gSync s (tick S), ?_, rfl, ⟨h.tick.1, h.tick.2.1, h.tick.2.2⟩, rfl, Nat.le_refl _, Nat.le_add_right _ _⟩
  unfold sync
  rw [actOf_ok h, look_some h hs hg, if_neg (by simp)]
theorem remove_none {S : Ds} (h : Ok S) {s : ByteArray} (hs : isNm s = true) (hg : get S.fs s = none) : remove S s = (71, S) := by
  unfold remove
  rw [actOf_ok h, look_none h hs hg, if_pos (by decide)]
theorem remove_some {S : Ds} (h : Ok S) {s : ByteArray} (hs : isNm s = true) {f : Fi} (hg : get S.fs s = some f) : ∃ S', remove S s = (0, S') ∧ S'.fs = del S.fs s ∧ Mv S S' := by
  refine ⟨gRemove s (tick S), ?_, rfl, ⟨h.tick.1, h.tick.2.1, h.tick.2.2⟩, rfl, Nat.le_refl _, ?_⟩
  · unfold remove
    rw [actOf_ok h, look_some h hs hg, if_neg (by simp)]
  · show S.used - _ ≤ S.used + 500
    omega
theorem rename_none {S : Ds} (h : Ok S) {s t : ByteArray} (hs : isNm s = true) (ht : isNm t = true) (hg : get S.fs s = none) : rename S s t = (71, S) := by
  unfold rename
  rw [actOf_ok h, ht, look_none h hs hg, if_pos (by decide)]
theorem rename_some {S : Ds} (h : Ok S) {s t : ByteArray} (hs : isNm s = true) (ht : isNm t = true) {f : Fi} (hg : get S.fs s = some f) : ∃ S', rename S s t = (0, S') ∧ S'.fs = del (del S.fs s) t ++ [{ f with nm := t }] ∧ Mv S S' := by
  have e : gRename s t (tick S) = { tick S with fs := del (del S.fs s) t ++ [{ f with nm := t }], used := S.used - ((get (del S.fs s) t).map fun f => f.dat.length).getD 0 } := by
    unfold gRename
    show (match get S.fs s with | none => _ | some f => _) = _
    rw [hg]; rfl
  refine ⟨gRename s t (tick S), ?_, by rw [e], ?_⟩
  · unfold rename
    rw [actOf_ok h, ht, look_some h hs hg, if_neg (by simp)]
  · rw [e]
    refine ⟨⟨h.tick.1, h.tick.2.1, h.tick.2.2⟩, rfl, Nat.le_refl _, ?_⟩
    show S.used - _ ≤ S.used + 500
    omega
theorem append_none {S : Ds} (h : Ok S) {s : ByteArray} (hs : isNm s = true) (l : List Nat) (hg : get S.fs s = none) : append S s l = (71, S) := by
  have hr : rAppend S s l = 71 := by unfold rAppend; rw [look_none h hs hg, if_pos (by decide)]
  unfold append
  rw [actOf_ok h, hr, if_pos (by decide)]
theorem append_some {S : Ds} (h : Ok S) {s : ByteArray} (hs : isNm s = true) {l : List Nat} (hl : l.length ≤ 500) (hroom : S.used + 500 ≤ S.cap) {f : Fi} (hg : get S.fs s = some f) : ∃ S', append S s l = (0, S') ∧ S'.fs = upd S.fs s (fun f => { f with dat := f.dat ++ l }) ∧ Mv S S' := by
  have hr : rAppend S s l = 0 := by unfold rAppend; rw [look_some h hs hg, if_neg (by simp), if_neg (by omega)]
  refine ⟨gAppend s l (tick S), ?_, rfl, ⟨h.tick.1, h.tick.2.1, h.tick.2.2⟩, rfl, Nat.le_refl _, ?_⟩
  · unfold append
    rw [actOf_ok h, hr, if_neg (by simp)]
  · show S.used + l.length ≤ S.used + 500
    omega
end Tl
end Go.Proofs.Ytpjfoinkifkdoaa
