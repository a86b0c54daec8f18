/-
  slices.Sorted of maps.Keys, laid at this program's numbers.
  Names: all names of a disk in order; Acts, Down, Capacity.
-/
import Derived.Shelf.SlIter.Nil
import Derived.Shelf.SortM.Plain
import Derived.Shelf.SortM.SortNone
import Derived.Ground.GgzProg
import Derived.Ground.SlgmProg
import Derived.Test.YtolddolfpnkndaaGreatRows
import Derived.Test.YtolddolfpnkndaaGreatXuae
namespace Go.Proofs.YtolddolfpnkndaaGreat
open Go.RowKit Go.Maps Go.Sort Go.Shelf
namespace Nms
def keys83_ren : Go.Shelf.Ren := ⟨fun | 7 => 83 | 10 => 107 | n => n, fun | 23 => 84 | 26 => 9 | 3 => 94 | 28 => 162 | 0 => 0 | 27 => 161 | 33 => 115 | 4 => 4 | n => n, fun | n => n⟩
theorem keys83 : Go.Proofs.SlLaysZ.n7 Tryz.prog keys83_ren := {
  mixed := by kernel_rfl
  f7 := ⟨Tryz.f83.name, by decide, Tryz.func83.trans (congrArg some (by kernel_rfl))⟩
  f10 := ⟨Tryz.f107.name, by decide, Tryz.func107.trans (congrArg some (by kernel_rfl))⟩
  t0 := Tryz.underlying0
  a0 := Tryz.isAgg0
  z0 := Tryz.sizeOf0
  v0 := Tryz.zeroValue0
  t4 := Tryz.underlying4
  a4 := Tryz.isAgg4
  z4 := Tryz.sizeOf4
  v4 := Tryz.zeroValue4
  t23 := Tryz.underlying84
  a23 := Tryz.isAgg84
  z23 := Tryz.sizeOf84
  v23 := Tryz.zeroValue84
  t26 := Tryz.underlying9
  a26 := Tryz.isAgg9
  z26 := Tryz.sizeOf9
  v26 := Tryz.zeroValue9
  t27 := Tryz.underlying161
  a27 := Tryz.isAgg161
  z27 := Tryz.sizeOf161
  v27 := Tryz.zeroValue161
  t28 := Tryz.underlying162
  a28 := Tryz.isAgg162
  z28 := Tryz.sizeOf162
  v28 := Tryz.zeroValue162
  t33 := Tryz.underlying115
  a33 := Tryz.isAgg115
  z33 := Tryz.sizeOf115
  v33 := Tryz.zeroValue115 }
def sorted82_ren : Go.Shelf.Ren := ⟨fun | 6 => 82 | 8 => 105 | 9 => 106 | 11 => 124 | 13 => 126 | 12 => 125 | 23 => 141 | 24 => 77 | 14 => 132 | 15 => 133 | 16 => 134 | 17 => 135 | 18 => 136 | 19 => 137 | 20 => 138 | 21 => 139 | 22 => 140 | 25 => 146 | 26 => 147 | 27 => 148 | 28 => 149 | 29 => 150 | 30 => 151 | 31 => 154 | n => n, fun | 26 => 9 | 28 => 162 | 24 => 123 | 0 => 0 | 3 => 3 | 37 => 153 | 48 => 30 | 50 => 35 | 4 => 4 | 40 => 209 | 39 => 208 | 45 => 213 | 5 => 5 | 9 => 9 | 51 => 218 | 55 => 167 | 57 => 223 | 58 => 224 | 33 => 115 | n => n, fun | n => n⟩
theorem sorted82 : Go.Proofs.SlLaysZ.n6 Tryz.prog sorted82_ren := {
  mixed := by kernel_rfl
  f6 := ⟨Tryz.f82.name, by decide, Tryz.func82.trans (congrArg some (by kernel_rfl))⟩
  f8 := ⟨Tryz.f105.name, by decide, Tryz.func105.trans (congrArg some (by kernel_rfl))⟩
  f11 := ⟨Tryz.f124.name, by decide, Tryz.func124.trans (congrArg some (by kernel_rfl))⟩
  t0 := Tryz.underlying0
  a0 := Tryz.isAgg0
  z0 := Tryz.sizeOf0
  v0 := Tryz.zeroValue0
  t24 := Tryz.underlying123
  a24 := Tryz.isAgg123
  z24 := Tryz.sizeOf123
  v24 := Tryz.zeroValue123
  t26 := Tryz.underlying9
  a26 := Tryz.isAgg9
  z26 := Tryz.sizeOf9
  v26 := Tryz.zeroValue9
  t28 := Tryz.underlying162
  a28 := Tryz.isAgg162
  z28 := Tryz.sizeOf162
  v28 := Tryz.zeroValue162
  i26 := by kernel_rfl }
def sort106_ren : Go.Shelf.Ren := ⟨fun | 6 => 106 | 8 => 126 | 9 => 125 | 19 => 141 | 20 => 77 | 21 => 132 | 22 => 133 | 23 => 134 | 24 => 135 | 25 => 136 | 26 => 137 | 27 => 138 | 28 => 139 | 29 => 140 | 36 => 146 | 31 => 147 | 32 => 148 | 37 => 149 | 38 => 150 | 39 => 151 | 41 => 154 | n => n, fun | 27 => 123 | 29 => 9 | 3 => 3 | 32 => 153 | 26 => 123 | 0 => 0 | 44 => 30 | 46 => 35 | 4 => 4 | 36 => 209 | 35 => 208 | 41 => 213 | 5 => 5 | 9 => 9 | 53 => 218 | 57 => 167 | 63 => 223 | 64 => 224 | n => n, fun | n => n⟩
theorem sort106 : Go.Proofs.SlLaysM.n6 Tryz.prog sort106_ren := {
  mixed := by kernel_rfl
  f6 := ⟨Tryz.f106.name, by decide, Tryz.func106.trans (congrArg some (by kernel_rfl))⟩
  f8 := Tryz.func126.trans (congrArg some (by kernel_rfl))
  f9 := ⟨Tryz.f125.name, by decide, Tryz.func125.trans (congrArg some (by kernel_rfl))⟩
  f19 := Tryz.func141.trans (congrArg some (by kernel_rfl))
  f20 := Tryz.func77.trans (congrArg some (by kernel_rfl))
  f21 := ⟨Tryz.f132.name, by decide, Tryz.func132.trans (congrArg some (by kernel_rfl))⟩
  f22 := ⟨Tryz.f133.name, by decide, Tryz.func133.trans (congrArg some (by kernel_rfl))⟩
  f23 := ⟨Tryz.f134.name, by decide, Tryz.func134.trans (congrArg some (by kernel_rfl))⟩
  f24 := ⟨Tryz.f135.name, by decide, Tryz.func135.trans (congrArg some (by kernel_rfl))⟩
  f25 := ⟨Tryz.f136.name, by decide, Tryz.func136.trans (congrArg some (by kernel_rfl))⟩
  f26 := ⟨Tryz.f137.name, by decide, Tryz.func137.trans (congrArg some (by kernel_rfl))⟩
  f27 := ⟨Tryz.f138.name, by decide, Tryz.func138.trans (congrArg some (by kernel_rfl))⟩
  f28 := ⟨Tryz.f139.name, by decide, Tryz.func139.trans (congrArg some (by kernel_rfl))⟩
  f29 := ⟨Tryz.f140.name, by decide, Tryz.func140.trans (congrArg some (by kernel_rfl))⟩
  f31 := Tryz.func147.trans (congrArg some (by kernel_rfl))
  f32 := Tryz.func148.trans (congrArg some (by kernel_rfl))
  f36 := ⟨Tryz.f146.name, by decide, Tryz.func146.trans (congrArg some (by kernel_rfl))⟩
  f37 := ⟨Tryz.f149.name, by decide, Tryz.func149.trans (congrArg some (by kernel_rfl))⟩
  f38 := ⟨Tryz.f150.name, by decide, Tryz.func150.trans (congrArg some (by kernel_rfl))⟩
  f39 := ⟨Tryz.f151.name, by decide, Tryz.func151.trans (congrArg some (by kernel_rfl))⟩
  f41 := ⟨Tryz.f154.name, by decide, Tryz.func154.trans (congrArg some (by kernel_rfl))⟩
  t0 := Tryz.underlying0
  a0 := Tryz.isAgg0
  z0 := Tryz.sizeOf0
  v0 := Tryz.zeroValue0
  t3 := Tryz.underlying3
  a3 := Tryz.isAgg3
  z3 := Tryz.sizeOf3
  v3 := Tryz.zeroValue3
  t4 := Tryz.underlying4
  a4 := Tryz.isAgg4
  z4 := Tryz.sizeOf4
  v4 := Tryz.zeroValue4
  t5 := Tryz.underlying5
  a5 := Tryz.isAgg5
  z5 := Tryz.sizeOf5
  v5 := Tryz.zeroValue5
  t9 := Tryz.underlying9
  a9 := Tryz.isAgg9
  z9 := Tryz.sizeOf9
  v9 := Tryz.zeroValue9
  t26 := Tryz.underlying123
  a26 := Tryz.isAgg123
  z26 := Tryz.sizeOf123
  v26 := Tryz.zeroValue123
  t27 := Tryz.underlying123
  a27 := Tryz.isAgg123
  z27 := Tryz.sizeOf123
  v27 := Tryz.zeroValue123
  t29 := Tryz.underlying9
  a29 := Tryz.isAgg9
  z29 := Tryz.sizeOf9
  v29 := Tryz.zeroValue9
  t32 := Tryz.underlying153
  a32 := Tryz.isAgg153
  z32 := Tryz.sizeOf153
  v32 := Tryz.zeroValue153
  t35 := Tryz.underlying208
  a35 := Tryz.isAgg208
  z35 := Tryz.sizeOf208
  v35 := Tryz.zeroValue208
  t36 := Tryz.underlying209
  a36 := Tryz.isAgg209
  z36 := Tryz.sizeOf209
  v36 := Tryz.zeroValue209
  t41 := Tryz.underlying213
  a41 := Tryz.isAgg213
  z41 := Tryz.sizeOf213
  v41 := Tryz.zeroValue213
  t44 := Tryz.underlying30
  a44 := Tryz.isAgg30
  z44 := Tryz.sizeOf30
  v44 := Tryz.zeroValue30
  t46 := Tryz.underlying35
  a46 := Tryz.isAgg35
  z46 := Tryz.sizeOf35
  v46 := Tryz.zeroValue35
  t53 := Tryz.underlying218
  a53 := Tryz.isAgg218
  z53 := Tryz.sizeOf218
  v53 := Tryz.zeroValue218
  t57 := Tryz.underlying167
  a57 := Tryz.isAgg167
  z57 := Tryz.sizeOf167
  v57 := Tryz.zeroValue167
  t63 := Tryz.underlying223
  a63 := Tryz.isAgg223
  z63 := Tryz.sizeOf223
  v63 := Tryz.zeroValue223
  t64 := Tryz.underlying224
  a64 := Tryz.isAgg224
  z64 := Tryz.sizeOf224
  v64 := Tryz.zeroValue224 }


theorem sorts82 (m : Nat) : AnyZ.SortsIn Tryz.prog sorted82_ren Fence.wide m :=
  ⟨fun blk off cap ss W hH hblk hsz => callsIn_wide.2 (AnyM.slices_Sort_string sort106 blk off cap ss W hH hblk hsz),
   fun p cap W => callsIn_wide.2 (AnyM.slices_Sort_string_none sort106 p cap W)⟩

theorem maps_Keys (mb : Option Nat) (W : World) : CallsIn Fence.wide 5 Tryz.prog 83 #[.map mb] W fun e w' => e = .returned (.func (.func 107) #[] #[.pointer (some ⟨W.heap.size, 0, none⟩)]) ∧ w' = W.alloc (.cells #[.map mb] 84) :=
  AnyZ.keys_in keys83 Fence.wide 5 trivial rfl mb W

set_option maxHeartbeats 1000000 in
theorem slices_Sorted_keys {H : Type} (b nn : Nat) (D0 : DataW H) (R : Value → Option (DataW H × List MemPlace)) (w : World) (hown : w.ownsMap Tryz.prog 9 R b nn D0) (hmax : Maps.size D0 ≤ maxLen) (hbytes : Maps.size D0 * 16 ≤ 140737488355328) :
    CallsIn Fence.wide 5 Tryz.prog 82 #[.func (.func 107) #[] #[.pointer (some ⟨w.heap.size, 0, none⟩)]] (w.alloc (.cells #[.map (some b)] 84)) fun e w' => ∃ (v : Value) (ss : List (List UInt8)), e = .returned v ∧ ss.Perm (strKeys D0) ∧
      w'.ownsRow (w.alloc (.cells #[.map (some b)] 84)).heap.size 9 1 v ss.length ((ss.mergeSort (fun x y => decide (x ≤ y))).map encStr) ∧ (v = .slice none 0 0 ↔ ss = []) ∧ Below (w.alloc (.cells #[.map (some b)] 84)).heap.size (w.alloc (.cells #[.map (some b)] 84)) w' := by
  have hbl := hown.lt
  have hseq : SeqGives Fence.wide 2 Tryz.prog 107 #[.pointer (some ⟨w.heap.size, 0, none⟩)] encStr (fun ss => ss.Perm (strKeys D0)) (Maps.size D0) (w.alloc (.cells #[.map (some b)] 84)) :=
    AnyZ.keys_gives (ρ := keys83_ren) { keys83 with } Fence.wide _ trivial rfl (by omega) w.heap.size b nn D0 _ (by simp) (by simp) (by
      obtain ⟨es, clock, hb, Ft, hs, hD⟩ := hown
      exact ⟨es, clock, (Below.heap_alloc _ _ b hbl).trans hb, Ft, hs, hD⟩)
  exact AnyZ.sorted_in sorted82 Fence.wide 5 trivial trivial trivial trivial rfl (by omega) (sorts82 _) (enters_of Tryz.func106 (by kernel_rfl) rfl) 107 #[.pointer (some ⟨w.heap.size, 0, none⟩)] trivial (enters_of Tryz.func107 (by kernel_rfl) rfl) _ _ hmax hbytes _ hseq

end Nms
end Go.Proofs.YtolddolfpnkndaaGreat
namespace Go.Proofs.YtolddolfpnkndaaGreat
open Go.RowKit Go.Maps Go.Sort
namespace Dk
open Vt
theorem perm_of_sub {α : Type} [BEq α] [LawfulBEq α] : ∀ {a b : List α}, a.Nodup → (∀ x ∈ a, x ∈ b) → b.length ≤ a.length → a.Perm b := by
  intro a
  induction a with
  | nil => intro b _ _ hl; rw [List.eq_nil_of_length_eq_zero (Nat.le_zero.1 hl)]
  | cons x t ih =>
    intro b hn hs hl
    obtain ⟨hx, hn⟩ := List.nodup_cons.1 hn
    have hb := hs x (List.mem_cons_self)
    have h1 := List.perm_cons_erase hb
    refine (List.Perm.cons x (ih hn (fun y hy => (List.mem_erase_of_ne (a := y) (b := x) (fun e => hx (by rw [← e]; exact hy))).2 (hs y (List.mem_cons_of_mem _ hy))) ?_)).trans h1.symm
    have := h1.length_eq
    simp only [List.length_cons] at this hl
    omega
theorem below_alloc {w w2 : World} {o : Obj} (h : Below (w.alloc o).heap.size (w.alloc o) w2) : Below w.heap.size w w2 := by
  have h0 : w.heap.size ≤ (w.alloc o).heap.size := by simp
  exact ⟨h.os, h.tape, h.output, Nat.le_trans h0 h.size, fun k hk => (h.block k (Nat.lt_of_lt_of_le hk h0)).trans ((MapKept.heap_alloc w o).2 k hk)⟩
/-- the names' bytes, in order -/
def nmsL (es : List En) : List (List UInt8) := (es.map fun e => e.nm.data.toList).mergeSort leB
theorem keys_perm {w : World} {d m : Nat} {es : List En} {O : Nat → Prop} {S : Ds} (h : DKm w d m es O S) {D : DataW Unit} (hD : ∀ s : ByteArray, s.size ≤ maxLen → Maps.has D (kl s) = (fnd es s).isSome) (hs : Maps.size D = es.length) : (es.map fun e => e.nm.data.toList).Perm (strKeys D) := by
  apply perm_of_sub
  · refine List.pairwise_map.2 (h.names.imp fun {a b} q e => q ?_)
    rcases a with ⟨⟨⟨x⟩⟩, _⟩; rcases b with ⟨⟨⟨y⟩⟩, _⟩
    simp at e ⊢; exact e
  · intro x hx
    obtain ⟨e, he, rfl⟩ := List.mem_map.1 hx
    have hf : (fnd es e.nm).isSome = true := by
      cases q : fnd es e.nm with
      | none => exact absurd rfl (fnd_none.1 q e he)
      | some _ => rfl
    have hsz : e.nm.size ≤ maxLen := isNm_len (h.good.isnm e.fi (by rw [h.fs]; exact List.mem_map_of_mem he))
    rw [← hD e.nm hsz] at hf
    cases D with
    | map l =>
      simp only [Maps.has, List.any_eq_true] at hf
      obtain ⟨p, hp, hk⟩ := hf
      refine List.mem_map.2 ⟨p, hp, ?_⟩
      unfold kl at hk
      cases hq : p.1 with
      | string t => rw [hq] at hk; have := eq_of_beq (show (t == e.nm.data.toList) = true from hk); exact this
      | _ => rw [hq] at hk; simp [Lit.sameKey] at hk
    | _ => simp [Maps.has] at hf
  · cases D with
    | map l => simp only [Maps.size] at hs; simp [strKeys, hs]
    | _ => simp [strKeys]
set_option maxRecDepth 100000 in
theorem names_is (w : World) (d m : Nat) (es : List En) (O : Nat → Prop) (S : Ds) (h : DKm w d m es O S) (hA : S.acts ≤ 3300000000000) :
    Calls Tryz.prog 53 #[.pointer (some ⟨d, 0, none⟩)] w fun e w' => ∃ v, e = .returned v ∧ w'.ownsRow w.heap.size TS 1 v es.length ((nmsL es).map encStr) ∧ (v = .slice none 0 0 ↔ es = []) ∧ Below w.heap.size w w' := by
  have c2 := h.box.cell 2 _ rfl
  obtain ⟨D, hown, _, hD, hs⟩ := h.map
  have hperm := keys_perm h hD hs
  have hcnt : es.length ≤ S.acts + 200 := by have := h.good.cnt; rw [h.fs, List.length_map] at this; exact this
  have hk : maxLen = 140737488355328 ∨ 3300000000200 ≤ maxLen := .inr (by decide)
  have H1 := hd (callsIn_wide.1 (Nms.maps_Keys (some m) w))
  have H2 := hd (callsIn_wide.1 (Nms.slices_Sorted_keys m es.length D ptrElem w hown (by omega) (by omega)))
  have HP := hd hperm
  clear h hown hD hs hperm hk
  go_enter Tryz.func53, Tryz.ntmps53
  go_wp2_with fail
  refine Calls.mono H1.out ?_
  rintro e w1 ⟨rfl, rfl⟩
  go_wp2_with fail
  refine Calls.mono H2.out ?_
  rintro e w2 ⟨v, ss, rfl, hp, hrow, hnil, hb⟩
  have hq := hp.trans HP.out.symm
  have hle : ss.length = es.length := by have := hq.length_eq; simpa using this
  have hrow' : w2.ownsRow w.heap.size TS 1 v es.length ((nmsL es).map encStr) := by
    rw [← hle]
    have e1 : nmsL es = ss.mergeSort leB := (mergeSort_of_perm hq).symm
    rw [e1]
    obtain ⟨h1, h2⟩ := hrow
    refine ⟨h1, h2.imp id ?_⟩
    rintro ⟨g, cap, cur, a1, a2, a3⟩
    exact ⟨g, cap, cur, a1, Nat.le_trans (by simp) a2, a3⟩
  have hb' : Below w.heap.size w w2 := below_alloc hb
  have hnil' : v = .slice none 0 0 ↔ es = [] := hnil.trans ⟨fun q => List.eq_nil_of_length_eq_zero (by rw [← hle, q]; rfl), fun q => List.eq_nil_of_length_eq_zero (by rw [hle, q]; rfl)⟩
  have HR := hd hrow'; have HB := hd hb'; have HN := hd hnil'
  clear hrow hb hnil hrow' hb' hnil' hp hq hle
  go_wp2_with fail
  go_ret
  exact ⟨_, rfl, HR.out, HN.out, HB.out⟩
theorem down_is (w : World) (d : Nat) (O : Nat → Prop) (S : Ds) (h : DK w d O S) : Calls Tryz.prog 11 #[.pointer (some ⟨d, 0, none⟩)] w fun e w' => e = .returned (.bool S.down) ∧ w' = w := by
  obtain ⟨m, es, h⟩ := h
  have c1 := h.box.cell 4 _ rfl
  clear h
  go_enter Tryz.func11, Tryz.ntmps11
  go_wp2
  go_ret
  exact ⟨rfl, rfl⟩
end Dk
end Go.Proofs.YtolddolfpnkndaaGreat
