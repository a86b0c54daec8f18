/-
  Names: all names of a disk in order; Acts, Down, Capacity.
-/
import Derived.Test.YtnakaomgceoobaaGreatDk6
import Derived.Test.YtnakaomgceoobaaGreatDnc
namespace Go.Proofs.YtnakaomgceoobaaGreat
open Go.RowKit Go.Maps Go.Sort
namespace Dk
open Vt
theorem perm_of_sub {α : Type} [BEq α] [LawfulBEq α] : ∀ {a b : List α}, a.Nodup → (∀ x ∈ a, x ∈ b) → b.length ≤ a.length → a.Perm b := by
  intro a
  induction a with
  | nil => intro b _ _ hl; rw [List.eq_nil_of_length_eq_zero (Nat.le_zero.1 hl)]
  | cons x t ih =>
    intro b hn hs hl
    obtain ⟨hx, hn⟩ := List.nodup_cons.1 hn
    have hb := hs x (List.mem_cons_self)
    have h1 := List.perm_cons_erase hb
    refine (List.Perm.cons x (ih hn (fun y hy => (List.mem_erase_of_ne (a := y) (b := x) (fun e => hx (by rw [← e]; exact hy))).2 (hs y (List.mem_cons_of_mem _ hy))) ?_)).trans h1.symm
    have := h1.length_eq
    simp only [List.length_cons] at this hl
    omega
theorem below_alloc {w w2 : World} {o : Obj} (h : Below (w.alloc o).heap.size (w.alloc o) w2) : Below w.heap.size w w2 := by
  have h0 : w.heap.size ≤ (w.alloc o).heap.size := by simp
  exact ⟨h.os, h.tape, h.output, Nat.le_trans h0 h.size, fun k hk => (h.block k (Nat.lt_of_lt_of_le hk h0)).trans ((MapKept.heap_alloc w o).2 k hk)⟩
/-- the names' bytes, in order -/
def nmsL (es : List En) : List (List UInt8) := (es.map fun e => e.nm.data.toList).mergeSort leB
theorem keys_perm {w : World} {d m : Nat} {es : List En} {O : Nat → Prop} {S : Ds} (h : DKm w d m es O S) {D : DataW Unit} (hD : ∀ s : ByteArray, s.size ≤ maxLen → Maps.has D (kl s) = (fnd es s).isSome) (hs : Maps.size D = es.length) : (es.map fun e => e.nm.data.toList).Perm (strKeys D) := by
  apply perm_of_sub
  · refine List.pairwise_map.2 (h.names.imp fun {a b} q e => q ?_)
    rcases a with ⟨⟨⟨x⟩⟩, _⟩; rcases b with ⟨⟨⟨y⟩⟩, _⟩
    simp at e ⊢; exact e
  · intro x hx
    obtain ⟨e, he, rfl⟩ := List.mem_map.1 hx
    have hf : (fnd es e.nm).isSome = true := by
      cases q : fnd es e.nm with
      | none => exact absurd rfl (fnd_none.1 q e he)
      | some _ => rfl
    have hsz : e.nm.size ≤ maxLen := isNm_len (h.good.isnm e.fi (by rw [h.fs]; exact List.mem_map_of_mem he))
    rw [← hD e.nm hsz] at hf
    cases D with
    | map l =>
      simp only [Maps.has, List.any_eq_true] at hf
      obtain ⟨p, hp, hk⟩ := hf
      refine List.mem_map.2 ⟨p, hp, ?_⟩
      unfold kl at hk
      cases hq : p.1 with
      | string t => rw [hq] at hk; have := eq_of_beq (show (t == e.nm.data.toList) = true from hk); exact this
      | _ => rw [hq] at hk; simp [Lit.sameKey] at hk
    | _ => simp [Maps.has] at hf
  · cases D with
    | map l => simp only [Maps.size] at hs; simp [strKeys, hs]
    | _ => simp [strKeys]
set_option maxRecDepth 100000 in
theorem names_is (w : World) (d m : Nat) (es : List En) (O : Nat → Prop) (S : Ds) (h : DKm w d m es O S) (hA : S.acts ≤ 3300000000000) :
    Calls Tryz.prog 52 #[.pointer (some ⟨d, 0, none⟩)] w fun e w' => ∃ v, e = .returned v ∧ w'.ownsRow w.heap.size TS 1 v es.length ((nmsL es).map encStr) ∧ (v = .slice none 0 0 ↔ es = []) ∧ Below w.heap.size w w' := by
  have c2 := h.box.cell 2 _ rfl
  obtain ⟨D, hown, _, hD, hs⟩ := h.map
  have hperm := keys_perm h hD hs
  have hcnt : es.length ≤ S.acts + 200 := by have := h.good.cnt; rw [h.fs, List.length_map] at this; exact this
  have hk : maxLen = 140737488355328 ∨ 3300000000200 ≤ maxLen := .inr (by decide)
  have H1 := hd (callsIn_wide.1 (Nms.maps_Keys (some m) w))
  have H2 := hd (callsIn_wide.1 (Nms.slices_Sorted_keys m es.length D ptrElem w hown (by omega) (by omega)))
  have HP := hd hperm
  clear h hown hD hs hperm hk
  go_enter Tryz.func52, Tryz.ntmps52
  go_wp2_with fail
  refine Calls.mono H1.out ?_
  rintro e w1 ⟨rfl, rfl⟩
  go_wp2_with fail
  refine Calls.mono H2.out ?_
  rintro e w2 ⟨v, ss, rfl, hp, hrow, hnil, hb⟩
  have hq := hp.trans HP.out.symm
  have hle : ss.length = es.length := by have := hq.length_eq; simpa using this
  have hrow' : w2.ownsRow w.heap.size TS 1 v es.length ((nmsL es).map encStr) := by
    rw [← hle]
    have e1 : nmsL es = ss.mergeSort leB := (mergeSort_of_perm hq).symm
    rw [e1]
    obtain ⟨h1, h2⟩ := hrow
    refine ⟨h1, h2.imp id ?_⟩
    rintro ⟨g, cap, cur, a1, a2, a3⟩
    exact ⟨g, cap, cur, a1, Nat.le_trans (by simp) a2, a3⟩
  have hb' : Below w.heap.size w w2 := below_alloc hb
  have hnil' : v = .slice none 0 0 ↔ es = [] := hnil.trans ⟨fun q => List.eq_nil_of_length_eq_zero (by rw [← hle, q]; rfl), fun q => List.eq_nil_of_length_eq_zero (by rw [hle, q]; rfl)⟩
  have HR := hd hrow'; have HB := hd hb'; have HN := hd hnil'
  clear hrow hb hnil hrow' hb' hnil' hp hq hle
  go_wp2_with fail
  go_ret
  exact ⟨_, rfl, HR.out, HN.out, HB.out⟩
end Dk
end Go.Proofs.YtnakaomgceoobaaGreat
