/-
  slices.Sorted of maps.Keys, laid at this program's numbers.
  Names: all names of a disk in order; Acts, Down, Capacity.
  THE WALKS OF Append.
  THE WALKS OF bytes.Clone and (*file).cut.
  THE WALKS OF Read.
  A DISK WHOSE COUNT IS UNDER WAY (as within Crash's loop): the files, without what the state keeps to; sums over files that have been gone over.
-/
import Derived.Shelf.SlIter.Nil
import Derived.Shelf.SortM.Plain
import Derived.Shelf.SortM.SortNone
import Derived.Ground.GgzProg
import Derived.Ground.SlgmProg
import Derived.Test.YtnakaomgceoobaaGreatRows
import Derived.Test.YtnakaomgceoobaaGreatMb
namespace Go.Proofs.YtnakaomgceoobaaGreat
open Go.RowKit Go.Maps Go.Sort Go.Shelf
namespace Nms
def keys76_ren : Go.Shelf.Ren := ⟨fun | 7 => 76 | 10 => 99 | n => n, fun | 23 => 83 | 26 => 9 | 3 => 86 | 28 => 148 | 0 => 0 | 27 => 147 | 33 => 80 | 4 => 4 | n => n, fun | n => n⟩
theorem keys76 : Go.Proofs.SlLaysZ.n7 Tryz.prog keys76_ren := {
  mixed := by kernel_rfl
  f7 := ⟨Tryz.f76.name, by decide, Tryz.func76.trans (congrArg some (by kernel_rfl))⟩
  f10 := ⟨Tryz.f99.name, by decide, Tryz.func99.trans (congrArg some (by kernel_rfl))⟩
  t0 := Tryz.underlying0
  a0 := Tryz.isAgg0
  z0 := Tryz.sizeOf0
  v0 := Tryz.zeroValue0
  t4 := Tryz.underlying4
  a4 := Tryz.isAgg4
  z4 := Tryz.sizeOf4
  v4 := Tryz.zeroValue4
  t23 := Tryz.underlying83
  a23 := Tryz.isAgg83
  z23 := Tryz.sizeOf83
  v23 := Tryz.zeroValue83
  t26 := Tryz.underlying9
  a26 := Tryz.isAgg9
  z26 := Tryz.sizeOf9
  v26 := Tryz.zeroValue9
  t27 := Tryz.underlying147
  a27 := Tryz.isAgg147
  z27 := Tryz.sizeOf147
  v27 := Tryz.zeroValue147
  t28 := Tryz.underlying148
  a28 := Tryz.isAgg148
  z28 := Tryz.sizeOf148
  v28 := Tryz.zeroValue148
  t33 := Tryz.underlying80
  a33 := Tryz.isAgg80
  z33 := Tryz.sizeOf80
  v33 := Tryz.zeroValue80 }
def sorted75_ren : Go.Shelf.Ren := ⟨fun | 6 => 75 | 8 => 97 | 9 => 98 | 11 => 104 | 13 => 106 | 12 => 105 | 23 => 121 | 24 => 36 | 14 => 112 | 15 => 113 | 16 => 114 | 17 => 115 | 18 => 116 | 19 => 117 | 20 => 118 | 21 => 119 | 22 => 120 | 25 => 125 | 26 => 126 | 27 => 127 | 28 => 128 | 29 => 129 | 30 => 130 | 31 => 133 | n => n, fun | 26 => 9 | 28 => 148 | 24 => 118 | 0 => 0 | 3 => 3 | 37 => 95 | 48 => 41 | 50 => 36 | 4 => 4 | 40 => 180 | 39 => 179 | 45 => 184 | 5 => 5 | 9 => 9 | 51 => 188 | 55 => 134 | 57 => 193 | 58 => 194 | 33 => 80 | n => n, fun | n => n⟩
theorem sorted75 : Go.Proofs.SlLaysZ.n6 Tryz.prog sorted75_ren := {
  mixed := by kernel_rfl
  f6 := ⟨Tryz.f75.name, by decide, Tryz.func75.trans (congrArg some (by kernel_rfl))⟩
  f8 := ⟨Tryz.f97.name, by decide, Tryz.func97.trans (congrArg some (by kernel_rfl))⟩
  f11 := ⟨Tryz.f104.name, by decide, Tryz.func104.trans (congrArg some (by kernel_rfl))⟩
  t0 := Tryz.underlying0
  a0 := Tryz.isAgg0
  z0 := Tryz.sizeOf0
  v0 := Tryz.zeroValue0
  t24 := Tryz.underlying118
  a24 := Tryz.isAgg118
  z24 := Tryz.sizeOf118
  v24 := Tryz.zeroValue118
  t26 := Tryz.underlying9
  a26 := Tryz.isAgg9
  z26 := Tryz.sizeOf9
  v26 := Tryz.zeroValue9
  t28 := Tryz.underlying148
  a28 := Tryz.isAgg148
  z28 := Tryz.sizeOf148
  v28 := Tryz.zeroValue148
  i26 := by kernel_rfl }
def sort98_ren : Go.Shelf.Ren := ⟨fun | 6 => 98 | 8 => 106 | 9 => 105 | 19 => 121 | 20 => 36 | 21 => 112 | 22 => 113 | 23 => 114 | 24 => 115 | 25 => 116 | 26 => 117 | 27 => 118 | 28 => 119 | 29 => 120 | 36 => 125 | 31 => 126 | 32 => 127 | 37 => 128 | 38 => 129 | 39 => 130 | 41 => 133 | n => n, fun | 27 => 118 | 29 => 9 | 3 => 3 | 32 => 95 | 26 => 118 | 0 => 0 | 44 => 41 | 46 => 36 | 4 => 4 | 36 => 180 | 35 => 179 | 41 => 184 | 5 => 5 | 9 => 9 | 53 => 188 | 57 => 134 | 63 => 193 | 64 => 194 | n => n, fun | n => n⟩
theorem sort98 : Go.Proofs.SlLaysM.n6 Tryz.prog sort98_ren := {
  mixed := by kernel_rfl
  f6 := ⟨Tryz.f98.name, by decide, Tryz.func98.trans (congrArg some (by kernel_rfl))⟩
  f8 := Tryz.func106.trans (congrArg some (by kernel_rfl))
  f9 := ⟨Tryz.f105.name, by decide, Tryz.func105.trans (congrArg some (by kernel_rfl))⟩
  f19 := Tryz.func121.trans (congrArg some (by kernel_rfl))
  f20 := Tryz.func36.trans (congrArg some (by kernel_rfl))
  f21 := ⟨Tryz.f112.name, by decide, Tryz.func112.trans (congrArg some (by kernel_rfl))⟩
  f22 := ⟨Tryz.f113.name, by decide, Tryz.func113.trans (congrArg some (by kernel_rfl))⟩
  f23 := ⟨Tryz.f114.name, by decide, Tryz.func114.trans (congrArg some (by kernel_rfl))⟩
  f24 := ⟨Tryz.f115.name, by decide, Tryz.func115.trans (congrArg some (by kernel_rfl))⟩
  f25 := ⟨Tryz.f116.name, by decide, Tryz.func116.trans (congrArg some (by kernel_rfl))⟩
  f26 := ⟨Tryz.f117.name, by decide, Tryz.func117.trans (congrArg some (by kernel_rfl))⟩
  f27 := ⟨Tryz.f118.name, by decide, Tryz.func118.trans (congrArg some (by kernel_rfl))⟩
  f28 := ⟨Tryz.f119.name, by decide, Tryz.func119.trans (congrArg some (by kernel_rfl))⟩
  f29 := ⟨Tryz.f120.name, by decide, Tryz.func120.trans (congrArg some (by kernel_rfl))⟩
  f31 := Tryz.func126.trans (congrArg some (by kernel_rfl))
  f32 := Tryz.func127.trans (congrArg some (by kernel_rfl))
  f36 := ⟨Tryz.f125.name, by decide, Tryz.func125.trans (congrArg some (by kernel_rfl))⟩
  f37 := ⟨Tryz.f128.name, by decide, Tryz.func128.trans (congrArg some (by kernel_rfl))⟩
  f38 := ⟨Tryz.f129.name, by decide, Tryz.func129.trans (congrArg some (by kernel_rfl))⟩
  f39 := ⟨Tryz.f130.name, by decide, Tryz.func130.trans (congrArg some (by kernel_rfl))⟩
  f41 := ⟨Tryz.f133.name, by decide, Tryz.func133.trans (congrArg some (by kernel_rfl))⟩
  t0 := Tryz.underlying0
  a0 := Tryz.isAgg0
  z0 := Tryz.sizeOf0
  v0 := Tryz.zeroValue0
  t3 := Tryz.underlying3
  a3 := Tryz.isAgg3
  z3 := Tryz.sizeOf3
  v3 := Tryz.zeroValue3
  t4 := Tryz.underlying4
  a4 := Tryz.isAgg4
  z4 := Tryz.sizeOf4
  v4 := Tryz.zeroValue4
  t5 := Tryz.underlying5
  a5 := Tryz.isAgg5
  z5 := Tryz.sizeOf5
  v5 := Tryz.zeroValue5
  t9 := Tryz.underlying9
  a9 := Tryz.isAgg9
  z9 := Tryz.sizeOf9
  v9 := Tryz.zeroValue9
  t26 := Tryz.underlying118
  a26 := Tryz.isAgg118
  z26 := Tryz.sizeOf118
  v26 := Tryz.zeroValue118
  t27 := Tryz.underlying118
  a27 := Tryz.isAgg118
  z27 := Tryz.sizeOf118
  v27 := Tryz.zeroValue118
  t29 := Tryz.underlying9
  a29 := Tryz.isAgg9
  z29 := Tryz.sizeOf9
  v29 := Tryz.zeroValue9
  t32 := Tryz.underlying95
  a32 := Tryz.isAgg95
  z32 := Tryz.sizeOf95
  v32 := Tryz.zeroValue95
  t35 := Tryz.underlying179
  a35 := Tryz.isAgg179
  z35 := Tryz.sizeOf179
  v35 := Tryz.zeroValue179
  t36 := Tryz.underlying180
  a36 := Tryz.isAgg180
  z36 := Tryz.sizeOf180
  v36 := Tryz.zeroValue180
  t41 := Tryz.underlying184
  a41 := Tryz.isAgg184
  z41 := Tryz.sizeOf184
  v41 := Tryz.zeroValue184
  t44 := Tryz.underlying41
  a44 := Tryz.isAgg41
  z44 := Tryz.sizeOf41
  v44 := Tryz.zeroValue41
  t46 := Tryz.underlying36
  a46 := Tryz.isAgg36
  z46 := Tryz.sizeOf36
  v46 := Tryz.zeroValue36
  t53 := Tryz.underlying188
  a53 := Tryz.isAgg188
  z53 := Tryz.sizeOf188
  v53 := Tryz.zeroValue188
  t57 := Tryz.underlying134
  a57 := Tryz.isAgg134
  z57 := Tryz.sizeOf134
  v57 := Tryz.zeroValue134
  t63 := Tryz.underlying193
  a63 := Tryz.isAgg193
  z63 := Tryz.sizeOf193
  v63 := Tryz.zeroValue193
  t64 := Tryz.underlying194
  a64 := Tryz.isAgg194
  z64 := Tryz.sizeOf194
  v64 := Tryz.zeroValue194 }


theorem sorts75 (m : Nat) : AnyZ.SortsIn Tryz.prog sorted75_ren Fence.wide m :=
  ⟨fun blk off cap ss W hH hblk hsz => callsIn_wide.2 (AnyM.slices_Sort_string sort98 blk off cap ss W hH hblk hsz),
   fun p cap W => callsIn_wide.2 (AnyM.slices_Sort_string_none sort98 p cap W)⟩

theorem maps_Keys (mb : Option Nat) (W : World) : CallsIn Fence.wide 5 Tryz.prog 76 #[.map mb] W fun e w' => e = .returned (.func (.func 99) #[] #[.pointer (some ⟨W.heap.size, 0, none⟩)]) ∧ w' = W.alloc (.cells #[.map mb] 83) :=
  AnyZ.keys_in keys76 Fence.wide 5 trivial rfl mb W

set_option maxHeartbeats 1000000 in
theorem slices_Sorted_keys {H : Type} (b nn : Nat) (D0 : DataW H) (R : Value → Option (DataW H × List MemPlace)) (w : World) (hown : w.ownsMap Tryz.prog 9 R b nn D0) (hmax : Maps.size D0 ≤ maxLen) (hbytes : Maps.size D0 * 16 ≤ 140737488355328) :
    CallsIn Fence.wide 5 Tryz.prog 75 #[.func (.func 99) #[] #[.pointer (some ⟨w.heap.size, 0, none⟩)]] (w.alloc (.cells #[.map (some b)] 83)) fun e w' => ∃ (v : Value) (ss : List (List UInt8)), e = .returned v ∧ ss.Perm (strKeys D0) ∧
      w'.ownsRow (w.alloc (.cells #[.map (some b)] 83)).heap.size 9 1 v ss.length ((ss.mergeSort (fun x y => decide (x ≤ y))).map encStr) ∧ (v = .slice none 0 0 ↔ ss = []) ∧ Below (w.alloc (.cells #[.map (some b)] 83)).heap.size (w.alloc (.cells #[.map (some b)] 83)) w' := by
  have hbl := hown.lt
  have hseq : SeqGives Fence.wide 2 Tryz.prog 99 #[.pointer (some ⟨w.heap.size, 0, none⟩)] encStr (fun ss => ss.Perm (strKeys D0)) (Maps.size D0) (w.alloc (.cells #[.map (some b)] 83)) :=
    AnyZ.keys_gives (ρ := keys76_ren) { keys76 with } Fence.wide _ trivial rfl (by omega) w.heap.size b nn D0 _ (by simp) (by simp) (by
      obtain ⟨es, clock, hb, Ft, hs, hD⟩ := hown
      exact ⟨es, clock, (Below.heap_alloc _ _ b hbl).trans hb, Ft, hs, hD⟩)
  exact AnyZ.sorted_in sorted75 Fence.wide 5 trivial trivial trivial trivial rfl (by omega) (sorts75 _) (enters_of Tryz.func98 (by kernel_rfl) rfl) 99 #[.pointer (some ⟨w.heap.size, 0, none⟩)] trivial (enters_of Tryz.func99 (by kernel_rfl) rfl) _ _ hmax hbytes _ hseq

set_option maxHeartbeats 1000000 in
theorem slices_Sorted_keys_nil (w : World) :
    CallsIn Fence.wide 5 Tryz.prog 75 #[.func (.func 99) #[] #[.pointer (some ⟨w.heap.size, 0, none⟩)]] (w.alloc (.cells #[.map none] 83)) fun e w' => ∃ (v : Value) (ss : List (List UInt8)), e = .returned v ∧ ss = [] ∧
      w'.ownsRow (w.alloc (.cells #[.map none] 83)).heap.size 9 1 v ss.length ((ss.mergeSort (fun x y => decide (x ≤ y))).map encStr) ∧ (v = .slice none 0 0 ↔ ss = []) ∧ Below (w.alloc (.cells #[.map none] 83)).heap.size (w.alloc (.cells #[.map none] 83)) w' := by
  have hseq : SeqGives Fence.wide 2 Tryz.prog 99 #[.pointer (some ⟨w.heap.size, 0, none⟩)] encStr (fun ss : List (List UInt8) => ss = []) 0 (w.alloc (.cells #[.map none] 83)) :=
    AnyZ.keys_gives_nil (ρ := keys76_ren) { keys76 with } Fence.wide _ trivial rfl w.heap.size _ (by simp) (by simp)
  exact AnyZ.sorted_in sorted75 Fence.wide 5 trivial trivial trivial trivial rfl (by omega) (sorts75 _) (enters_of Tryz.func98 (by kernel_rfl) rfl) 99 #[.pointer (some ⟨w.heap.size, 0, none⟩)] trivial (enters_of Tryz.func99 (by kernel_rfl) rfl) _ 0 (Nat.zero_le _) (by omega) _ hseq
end Nms
end Go.Proofs.YtnakaomgceoobaaGreat
namespace Go.Proofs.YtnakaomgceoobaaGreat
open Go.RowKit Go.Maps Go.Sort
namespace Dk
open Vt
theorem perm_of_sub {α : Type} [BEq α] [LawfulBEq α] : ∀ {a b : List α}, a.Nodup → (∀ x ∈ a, x ∈ b) → b.length ≤ a.length → a.Perm b := by
  intro a
  induction a with
  | nil => intro b _ _ hl; rw [List.eq_nil_of_length_eq_zero (Nat.le_zero.1 hl)]
  | cons x t ih =>
    intro b hn hs hl
    obtain ⟨hx, hn⟩ := List.nodup_cons.1 hn
    have hb := hs x (List.mem_cons_self)
    have h1 := List.perm_cons_erase hb
    refine (List.Perm.cons x (ih hn (fun y hy => (List.mem_erase_of_ne (a := y) (b := x) (fun e => hx (by rw [← e]; exact hy))).2 (hs y (List.mem_cons_of_mem _ hy))) ?_)).trans h1.symm
    have := h1.length_eq
    simp only [List.length_cons] at this hl
    omega
theorem below_alloc {w w2 : World} {o : Obj} (h : Below (w.alloc o).heap.size (w.alloc o) w2) : Below w.heap.size w w2 := by
  have h0 : w.heap.size ≤ (w.alloc o).heap.size := by simp
  exact ⟨h.os, h.tape, h.output, Nat.le_trans h0 h.size, fun k hk => (h.block k (Nat.lt_of_lt_of_le hk h0)).trans ((MapKept.heap_alloc w o).2 k hk)⟩
/-- the names' bytes, in order -/
def nmsL (es : List En) : List (List UInt8) := (es.map fun e => e.nm.data.toList).mergeSort leB
theorem keys_perm {w : World} {d m : Nat} {es : List En} {O : Nat → Prop} {S : Ds} (h : DKm w d m es O S) {D : DataW Unit} (hD : ∀ s : ByteArray, s.size ≤ maxLen → Maps.has D (kl s) = (fnd es s).isSome) (hs : Maps.size D = es.length) : (es.map fun e => e.nm.data.toList).Perm (strKeys D) := by
  apply perm_of_sub
  · refine List.pairwise_map.2 (h.names.imp fun {a b} q e => q ?_)
    rcases a with ⟨⟨⟨x⟩⟩, _⟩; rcases b with ⟨⟨⟨y⟩⟩, _⟩
    simp at e ⊢; exact e
  · intro x hx
    obtain ⟨e, he, rfl⟩ := List.mem_map.1 hx
    have hf : (fnd es e.nm).isSome = true := by
      cases q : fnd es e.nm with
      | none => exact absurd rfl (fnd_none.1 q e he)
      | some _ => rfl
    have hsz : e.nm.size ≤ maxLen := isNm_len (h.good.isnm e.fi (by rw [h.fs]; exact List.mem_map_of_mem he))
    rw [← hD e.nm hsz] at hf
    cases D with
    | map l =>
      simp only [Maps.has, List.any_eq_true] at hf
      obtain ⟨p, hp, hk⟩ := hf
      refine List.mem_map.2 ⟨p, hp, ?_⟩
      unfold kl at hk
      cases hq : p.1 with
      | string t => rw [hq] at hk; have := eq_of_beq (show (t == e.nm.data.toList) = true from hk); exact this
      | _ => rw [hq] at hk; simp [Lit.sameKey] at hk
    | _ => simp [Maps.has] at hf
  · cases D with
    | map l => simp only [Maps.size] at hs; simp [strKeys, hs]
    | _ => simp [strKeys]
set_option maxRecDepth 100000 in
theorem names_is (w : World) (d m : Nat) (es : List En) (O : Nat → Prop) (S : Ds) (h : DKm w d m es O S) (hA : S.acts ≤ 3300000000000) :
    Calls Tryz.prog 52 #[.pointer (some ⟨d, 0, none⟩)] w fun e w' => ∃ v, e = .returned v ∧ w'.ownsRow w.heap.size TS 1 v es.length ((nmsL es).map encStr) ∧ (v = .slice none 0 0 ↔ es = []) ∧ Below w.heap.size w w' := by
  have c2 := h.box.cell 2 _ rfl
  obtain ⟨D, hown, _, hD, hs⟩ := h.map
  have hperm := keys_perm h hD hs
  have hcnt : es.length ≤ S.acts + 200 := by have := h.good.cnt; rw [h.fs, List.length_map] at this; exact this
  have hk : maxLen = 140737488355328 ∨ 3300000000200 ≤ maxLen := .inr (by decide)
  have H1 := hd (callsIn_wide.1 (Nms.maps_Keys (some m) w))
  have H2 := hd (callsIn_wide.1 (Nms.slices_Sorted_keys m es.length D ptrElem w hown (by omega) (by omega)))
  have HP := hd hperm
  clear h hown hD hs hperm hk
  go_enter Tryz.func52, Tryz.ntmps52
  go_wp2_with fail
  refine Calls.mono H1.out ?_
  rintro e w1 ⟨rfl, rfl⟩
  go_wp2_with fail
  refine Calls.mono H2.out ?_
  rintro e w2 ⟨v, ss, rfl, hp, hrow, hnil, hb⟩
  have hq := hp.trans HP.out.symm
  have hle : ss.length = es.length := by have := hq.length_eq; simpa using this
  have hrow' : w2.ownsRow w.heap.size TS 1 v es.length ((nmsL es).map encStr) := by
    rw [← hle]
    have e1 : nmsL es = ss.mergeSort leB := (mergeSort_of_perm hq).symm
    rw [e1]
    obtain ⟨h1, h2⟩ := hrow
    refine ⟨h1, h2.imp id ?_⟩
    rintro ⟨g, cap, cur, a1, a2, a3⟩
    exact ⟨g, cap, cur, a1, Nat.le_trans (by simp) a2, a3⟩
  have hb' : Below w.heap.size w w2 := below_alloc hb
  have hnil' : v = .slice none 0 0 ↔ es = [] := hnil.trans ⟨fun q => List.eq_nil_of_length_eq_zero (by rw [← hle, q]; rfl), fun q => List.eq_nil_of_length_eq_zero (by rw [hle, q]; rfl)⟩
  have HR := hd hrow'; have HB := hd hb'; have HN := hd hnil'
  clear hrow hb hnil hrow' hb' hnil' hp hq hle
  go_wp2_with fail
  go_ret
  exact ⟨_, rfl, HR.out, HN.out, HB.out⟩
end Dk
end Go.Proofs.YtnakaomgceoobaaGreat
namespace Go.Proofs.YtnakaomgceoobaaGreat
open Go.RowKit Go.Maps
namespace Dk
open Vt
attribute [local go_sem ↓] append_hid
theorem cf38 (caps : Array Value) (w : World) : (callFunc 79 caps).run Tryz.prog w = .ok (.enter 79 caps) w := by kernel_rfl
set_option maxRecDepth 100000 in
set_option maxHeartbeats 1000000 in
theorem append1_is (w : World) (d m : Nat) (es : List En) (O : Nat → Prop) (S : Ds) (sn : ByteArray) (e : En) (b1 b2 b3 : Nat) (ua : Option Addr) (uc : Nat) (l : List Nat) (h : DKm w d m es O S) (hf : fnd es sn = some e) (h1 : Blk w b1 TP [.pointer (some ⟨e.blk, 0, none⟩)]) (h2 : Blk w b2 31 [.slice ua l.length uc]) (h3 : Blk w b3 23 [.pointer (some ⟨d, 0, none⟩)]) (hI : IsB w (.slice ua l.length uc) l) (hroom : S.used + l.length ≤ S.cap) :
    Calls Tryz.prog 79 #[.pointer (some ⟨b1, 0, none⟩), .pointer (some ⟨b2, 0, none⟩), .pointer (some ⟨b3, 0, none⟩)] w fun e w2 => (∃ v, e = .returned v) ∧ Nx O w d (gAppend sn l S) w2 := by
  have hmx : Tryz.prog.follows .mixedOrders = true := by kernel_rfl
  obtain ⟨hm, hs⟩ := fnd_mem hf
  obtain ⟨hfb, hJ⟩ := h.file e hm
  obtain ⟨av, cv, hv, hlc⟩ := hJ.shape
  have hed : e.blk ≠ d := blk_ne hfb h.box (by decide)
  have hcap := h.good.cap
  have hle : e.dat.length ≤ S.used := by rw [h.good.used, h.fs]; exact get_len_le (f := e.fi) (by rw [fnd_get, hf]; rfl)
  obtain ⟨a', c', w1, hr, hJ1, hg1, hl1⟩ := run_append_jbl 31 w.drew 0 e.val (.slice ua l.length uc) e.dat l hJ hI (by omega) (Nat.zero_le _)
  rw [hv, append_hid] at hr
  have hk : ∀ b T cs, Blk w b T cs → T ≠ 5 → Blk w1 b T cs := fun b T cs hb hT => Blk.grown (W := w.drew) hb hg1 fun q => jb_ne hJ q.symm hb hT rfl
  obtain ⟨SS, hS0, hS1, hS2⟩ : ∃ SS : Nat → World, SS 0 = w.drew ∧ SS 1 = w1 ∧ SS 2 = w1.setCell ⟨e.blk, 0, none⟩ (.slice a' (e.dat.length + l.length) c') := ⟨fun s => match s with | 0 => w.drew | 1 => w1 | _ => w1.setCell ⟨e.blk, 0, none⟩ (.slice a' (e.dat.length + l.length) c'), rfl, rfl, rfl⟩
  have C1 : ∀ s, s ≤ 1 → (SS s).cell? ⟨b1, 0, none⟩ = some (.pointer (some ⟨e.blk, 0, none⟩)) := by
    intro s hs
    obtain rfl | rfl : s = 0 ∨ s = 1 := by omega
    · rw [hS0]; exact h1.cell 0 _ rfl
    · rw [hS1]; exact (hk _ _ _ h1 (by decide)).cell 0 _ rfl
  have C2 : (SS 0).cell? ⟨e.blk, 0, none⟩ = some (.slice av e.dat.length cv) := by rw [hS0, ← hv]; exact hfb.cell 0 _ rfl
  have C3 : (SS 0).cell? ⟨b2, 0, none⟩ = some (.slice ua l.length uc) := by rw [hS0]; exact h2.cell 0 _ rfl
  have hfb1 := hk _ _ _ hfb (by decide)
  have C4 : (SS 1).cell? ⟨e.blk, 0, none⟩ = some e.val := by rw [hS1]; exact hfb1.cell 0 _ rfl
  have F4 : (SS 1).frozen? ⟨e.blk, 0, none⟩ = false := by rw [hS1]; exact hfb1.frozen 0
  have R1 : (apO #[31, 31] 31 #[.slice av e.dat.length cv, .slice ua l.length uc]).run Tryz.prog (SS 0) = .ok (.slice a' (e.dat.length + l.length) c') (SS 1) := by rw [hS0, hS1]; exact hr
  rw [← hS1] at hS2
  -- the world behind the first region
  have hd1 := hk _ _ _ h.box (by decide)
  have hbd : Blk (SS 2) d TD (cells S m) := by rw [hS2, hS1]; exact hd1.other hed _
  have hb3 : Blk (SS 2) b3 23 [.pointer (some ⟨d, 0, none⟩)] := by rw [hS2, hS1]; exact (hk _ _ _ h3 (by decide)).other (blk_ne hfb h3 (by decide)) _
  have hb2 : Blk (SS 2) b2 31 [.slice ua l.length uc] := by rw [hS2, hS1]; exact (hk _ _ _ h2 (by decide)).other (blk_ne hfb h2 (by decide)) _
  obtain ⟨WW, hWW⟩ : ∃ WW, SS 2 = WW := ⟨_, rfl⟩
  rw [hWW] at hbd hb3 hb2
  obtain ⟨TT, hT0, hT1⟩ : ∃ TT : Nat → World, TT 0 = WW.drew ∧ TT 1 = (TT 0).setCell ⟨d, 1, none⟩ (.int .i64 ((S.used : Int) + (l.length : Int))) := ⟨fun s => match s with | 0 => WW.drew | _ => WW.drew.setCell ⟨d, 1, none⟩ (.int .i64 ((S.used : Int) + (l.length : Int))), rfl, rfl⟩
  have D1 : (TT 0).cell? ⟨b3, 0, none⟩ = some (.pointer (some ⟨d, 0, none⟩)) := by rw [hT0]; exact hb3.cell 0 _ rfl
  have D2 : (TT 0).cell? ⟨b2, 0, none⟩ = some (.slice ua l.length uc) := by rw [hT0]; exact hb2.cell 0 _ rfl
  have D3 : (TT 0).cell? ⟨d, 1, none⟩ = some (.int .i64 (S.used : Int)) := by rw [hT0]; exact hbd.cell 1 _ rfl
  have E3 : (TT 0).frozen? ⟨d, 1, none⟩ = false := by rw [hT0]; exact hbd.frozen 1
  have HFIN : Hid (Nx O w d (gAppend sn l S) (TT 1)) := by
    show Nx O w d (gAppend sn l S) (TT 1)
    have hO1 : Tr O w w1 := (Tr.drew O w).trans (Tr.grown (O := O) hg1 fun k q => (h.own.2.2 e hm).2 k q) fun x q => .inl q
    have hO2 : Tr O w (TT 1) := by
      rw [hT1, hT0, ← hWW, hS2, hS1]
      exact (hO1.trans (Tr.set (O := O) (p := ⟨e.blk, 0, none⟩) (h.own.2.2 e hm).1 _) fun x q => .inl q).trans ((Tr.drew O _).trans (Tr.set (O := O) (p := ⟨d, 1, none⟩) h.own.1 _) fun x q => .inl q) fun x q => .inl q
    have hblk : ∀ b, b ≠ e.blk → b ≠ d → (TT 1).heap[b]? = w1.heap[b]? := by
      intro b q1 q2
      rw [hT1, hT0, set_heap _ _ _ _ _ q2, ← hWW, hS2, hS1]
      exact set_heap _ _ _ _ _ q1
    have hp := h.put (w2 := TT 1) (S' := gAppend sn l S) hf (e' := { e with val := .slice a' (e.dat.length + l.length) c', dat := e.dat ++ l }) rfl rfl
      (fun b hb q1 q2 q3 => (hblk b q1 q2).trans (hg1.block b (h.olt b hb) fun q => q3 q.symm)) hO2.size
      (by rw [hT1, hT0]; exact Blk.set (W := WW.drew) hbd _)
      (by rw [hT1, hT0, ← hWW, hS2, hS1]; exact Blk.other (W := (w1.setCell ⟨e.blk, 0, none⟩ (.slice a' (e.dat.length + l.length) c')).drew) (hfb1.set _) (fun q => hed q.symm) _)
      (JB.same hJ1 fun g hg => hblk g (jb_ne hJ1 hg hfb1 (by decide)) (jb_ne hJ1 hg hd1 (by decide)))
      hl1 (by show upd S.fs sn _ = _; rw [h.fs]; exact (updE_fi fun x hx q => by rw [one_nm h.names hf hx q]; rfl).symm)
      (h.good.upd (u := S.used + l.length) (f := e.fi) (by rw [h.fs, fnd_get, hf]; rfl) (fun _ => rfl) (fun f q => by simp; omega) (by show S.used + l.length + e.dat.length = S.used + (e.dat ++ l).length; rw [List.length_append]; omega) hroom)
    refine ⟨_, ⟨m, _, hp⟩, hO2, fun b q => ?_⟩
    rcases q with q | q
    · exact .inl q
    · rcases hl1 b q with z | z
      · exact .inl ((h.own.2.2 e hm).2 b z)
      · exact .inr z
  have HS0 := hd hS0
  have HS1 := hd hS1
  have HS2 := hd hS2
  have HWW := hd hWW
  have HT0 := hd hT0
  have HT1 := hd hT1
  have hb64 : S.used + l.length ≤ 4194304 := by omega
  have HWR : Hid (IntKind.i64.wrap ((S.used : Int) + (l.length : Int)) = (S.used : Int) + (l.length : Int)) := by show IntKind.i64.wrap _ = _; rw [IntKind.wrap_i64]; omega
  clear hS0 hS1 hS2 hWW hT0 hT1 h h1 h2 h3 hfb hJ hr hJ1 hg1 hl1 hk hfb1 hd1 hbd hb3 hb2 hI hv
  go_enter Tryz.func79, Tryz.ntmps79
  go_wp2_with fail
  --REGION a
  refine region_chain (fun i => match i with
    | 0 => .pointer (some ⟨e.blk, 0, none⟩)
    | 1 => .pointer (some ⟨e.blk, 0, none⟩)
    | 2 => .pointer (some ⟨e.blk, 0, none⟩)
    | 3 => .pointer (some ⟨e.blk, 0, none⟩)
    | 4 => .slice av e.dat.length cv
    | 5 => .slice ua l.length uc
    | 6 => .slice a' (e.dat.length + l.length) c'
    | 7 => .pointer (some ⟨e.blk, 0, none⟩)
    | 8 => .pointer (some ⟨e.blk, 0, none⟩)
    | 9 => undef
    | _ => undef) [6, 9] SS hmx (by kernel_rfl) (by kernel_rfl) (by kernel_rfl) (by kernel_rfl) HS0.out ?_ ?_ (by decide)
  · intro i o ho s a hsr hlo hhi hout haf hun
    have e0 := getq (show a.tmps.getD 0 undef = Value.pointer (some { block := b1, off := 0 }) from hout 0 (notDst_spec (by kernel_rfl)))
    have e1 := getq (show a.tmps.getD 1 undef = Value.pointer (some { block := b2, off := 0 }) from hout 1 (notDst_spec (by kernel_rfl)))
    clear hout
    match i, ho, hlo, hhi, haf, hun with
    | 0, ho, hlo, hhi, haf, hun =>
      obtain rfl := Option.some.inj ho
      have hst : s = 0 ∨ s = 1 := by have := hhi 1 (by decide) (.inr (by kernel_rfl)); simp at hsr; omega
      refine step_c (w' := SS s) rfl fun K hK => ?_
      simp only [List.getElem_toArray, List.getElem_cons_zero] at hK ⊢
      clear haf hlo hhi hun ho hsr
      have hc := C1 s (by omega)
      go_simp
      exact hK
    | 1, ho, hlo, hhi, haf, hun =>
      obtain rfl := Option.some.inj ho
      obtain rfl : s = 0 := by have := hhi 0 (by decide) (.inr (by kernel_rfl)); simp at hsr; omega
      refine step_c (w' := SS 0) rfl fun K hK => ?_
      simp only [List.getElem_toArray, List.getElem_cons_succ, List.getElem_cons_zero] at hK ⊢
      clear haf hlo hhi hun ho hsr
      have hc := C1 0 (by omega)
      go_simp
      exact hK
    | 2, ho, hlo, hhi, haf, hun =>
      obtain rfl := Option.some.inj ho
      have f1 := getq (show a.tmps.getD 4 undef = .pointer (some ⟨e.blk, 0, none⟩) from haf ⟨1, .data⟩ (by simp) rfl 4 rfl)
      obtain rfl : s = 0 := by have := hhi 0 (by decide) (.inr (by kernel_rfl)); simp at hsr; omega
      refine step_c (w' := SS 0) rfl fun K hK => ?_
      simp only [List.getElem_toArray, List.getElem_cons_succ, List.getElem_cons_zero] at hK ⊢
      clear haf hlo hhi hun ho hsr
      go_simp
      exact hK
    | 3, ho, hlo, hhi, haf, hun =>
      obtain rfl := Option.some.inj ho
      have f2 := getq (show a.tmps.getD 5 undef = .pointer (some ⟨e.blk, 0, none⟩) from haf ⟨2, .data⟩ (by simp) rfl 5 rfl)
      obtain rfl : s = 0 := by have := hhi 0 (by decide) (.inr (by kernel_rfl)); simp at hsr; omega
      refine step_c (w' := SS 0) rfl fun K hK => ?_
      simp only [List.getElem_toArray, List.getElem_cons_succ, List.getElem_cons_zero] at hK ⊢
      clear haf hlo hhi hun ho hsr
      go_simp
      exact hK
    | 4, ho, hlo, hhi, haf, hun =>
      obtain rfl := Option.some.inj ho
      have f3 := getq (show a.tmps.getD 6 undef = .pointer (some ⟨e.blk, 0, none⟩) from haf ⟨3, .data⟩ (by simp) rfl 6 rfl)
      obtain rfl : s = 0 := by have := hhi 0 (by decide) (.inr (by kernel_rfl)); simp at hsr; omega
      refine step_c (w' := SS 0) rfl fun K hK => ?_
      simp only [List.getElem_toArray, List.getElem_cons_succ, List.getElem_cons_zero] at hK ⊢
      clear haf hlo hhi hun ho hsr
      go_simp
      exact hK
    | 5, ho, hlo, hhi, haf, hun =>
      obtain rfl := Option.some.inj ho
      obtain rfl : s = 0 := by have := hhi 0 (by decide) (.inr (by kernel_rfl)); simp at hsr; omega
      refine step_c (w' := SS 0) rfl fun K hK => ?_
      simp only [List.getElem_toArray, List.getElem_cons_succ, List.getElem_cons_zero] at hK ⊢
      clear haf hlo hhi hun ho hsr
      go_simp
      exact hK
    | 6, ho, hlo, hhi, haf, hun =>
      obtain rfl := Option.some.inj ho
      have f4 := getq (show a.tmps.getD 7 undef = .slice av e.dat.length cv from haf ⟨4, .data⟩ (by simp) rfl 7 rfl)
      have f5 := getq (show a.tmps.getD 8 undef = .slice ua l.length uc from haf ⟨5, .data⟩ (by simp) rfl 8 rfl)
      obtain rfl : s = 0 := by have := hhi 0 (by decide) (.inl (by kernel_rfl)); omega
      refine step_c (w' := SS 1) rfl fun K hK => ?_
      simp only [List.getElem_toArray, List.getElem_cons_succ, List.getElem_cons_zero] at hK ⊢
      clear haf hlo hhi hun ho hsr
      go_simp
      exact hK
    | 7, ho, hlo, hhi, haf, hun =>
      obtain rfl := Option.some.inj ho
      have f0 := getq (show a.tmps.getD 3 undef = .pointer (some ⟨e.blk, 0, none⟩) from haf ⟨0, .data⟩ (by simp) rfl 3 rfl)
      obtain rfl : s = 1 := by have := hlo 0 (by decide) (by kernel_rfl); have := hhi 1 (by decide) (.inr (by kernel_rfl)); simp at hsr; omega
      refine step_c (w' := SS 1) rfl fun K hK => ?_
      simp only [List.getElem_toArray, List.getElem_cons_succ, List.getElem_cons_zero] at hK ⊢
      clear haf hlo hhi hun ho hsr
      go_simp
      exact hK
    | 8, ho, hlo, hhi, haf, hun =>
      obtain rfl := Option.some.inj ho
      have f7 := getq (show a.tmps.getD 10 undef = .pointer (some ⟨e.blk, 0, none⟩) from haf ⟨7, .data⟩ (by simp) rfl 10 rfl)
      obtain rfl : s = 1 := by have := hlo 0 (by decide) (by kernel_rfl); have := hhi 1 (by decide) (.inr (by kernel_rfl)); simp at hsr; omega
      refine step_c (w' := SS 1) rfl fun K hK => ?_
      simp only [List.getElem_toArray, List.getElem_cons_succ, List.getElem_cons_zero] at hK ⊢
      clear haf hlo hhi hun ho hsr
      go_simp
      exact hK
    | 9, ho, hlo, hhi, haf, hun =>
      obtain rfl := Option.some.inj ho
      have f8 := getq (show a.tmps.getD 11 undef = .pointer (some ⟨e.blk, 0, none⟩) from haf ⟨8, .data⟩ (by simp) rfl 11 rfl)
      have f6 := getq (show a.tmps.getD 9 undef = .slice a' (e.dat.length + l.length) c' from haf ⟨6, .data⟩ (by simp) rfl 9 rfl)
      obtain rfl : s = 1 := by have := hlo 0 (by decide) (by kernel_rfl); have := hhi 1 (by decide) (.inl (by kernel_rfl)); omega
      refine step_c (w' := SS 2) rfl fun K hK => ?_
      simp only [List.getElem_toArray, List.getElem_cons_succ, List.getElem_cons_zero] at hK ⊢
      clear haf hlo hhi hun ho hsr
      rw [HS2.out] at hK
      go_simp
      exact hK
    | n + 10, ho, _, _, _, _ => simp at ho
  · intro aa hdf hsz hout hval
    have hat : aa.tmps = #[Value.pointer (some { block := b1, off := 0 }), Value.pointer (some { block := b2, off := 0 }), Value.pointer (some { block := b3, off := 0 }), .pointer (some ⟨e.blk, 0, none⟩), .pointer (some ⟨e.blk, 0, none⟩), .pointer (some ⟨e.blk, 0, none⟩), .pointer (some ⟨e.blk, 0, none⟩), .slice av e.dat.length cv, .slice ua l.length uc, .slice a' (e.dat.length + l.length) c', .pointer (some ⟨e.blk, 0, none⟩), .pointer (some ⟨e.blk, 0, none⟩), undef, undef, undef, undef, undef, undef, undef, undef, undef] := by
      refine arr_one (hsz.trans rfl) fun kk hkk => ?_
      match kk, hkk with
      | 0, _ => exact hout 0 (notDst_spec (by kernel_rfl))
      | 1, _ => exact hout 1 (notDst_spec (by kernel_rfl))
      | 2, _ => exact hout 2 (notDst_spec (by kernel_rfl))
      | 3, _ => exact hval 0 3 (by decide) rfl
      | 4, _ => exact hval 1 4 (by decide) rfl
      | 5, _ => exact hval 2 5 (by decide) rfl
      | 6, _ => exact hval 3 6 (by decide) rfl
      | 7, _ => exact hval 4 7 (by decide) rfl
      | 8, _ => exact hval 5 8 (by decide) rfl
      | 9, _ => exact hval 6 9 (by decide) rfl
      | 10, _ => exact hval 7 10 (by decide) rfl
      | 11, _ => exact hval 8 11 (by decide) rfl
      | 12, _ => exact hout 12 (notDst_spec (by kernel_rfl))
      | 13, _ => exact hout 13 (notDst_spec (by kernel_rfl))
      | 14, _ => exact hout 14 (notDst_spec (by kernel_rfl))
      | 15, _ => exact hout 15 (notDst_spec (by kernel_rfl))
      | 16, _ => exact hout 16 (notDst_spec (by kernel_rfl))
      | 17, _ => exact hout 17 (notDst_spec (by kernel_rfl))
      | 18, _ => exact hout 18 (notDst_spec (by kernel_rfl))
      | 19, _ => exact hout 19 (notDst_spec (by kernel_rfl))
      | 20, _ => exact hout 20 (notDst_spec (by kernel_rfl))
      | n + 21, h => exact absurd h (by simp)
    obtain ⟨tt, dd⟩ := aa
    simp only at hat hdf
    subst hat hdf
    clear hsz hout hval
    rw [show SS [6, 9].length = WW from HWW.out]
    go_wp2_with fail
    --REGION b
    refine region_chain (fun i => match i with
      | 0 => .pointer (some ⟨d, 0, none⟩)
      | 1 => .pointer (some ⟨d, 0, none⟩)
      | 2 => .pointer (some ⟨d, 1, none⟩)
      | 3 => .int .i64 (S.used : Int)
      | 4 => .slice ua l.length uc
      | 5 => .int .i64 (l.length : Int)
      | 6 => .int .i64 ((S.used : Int) + (l.length : Int))
      | 7 => .pointer (some ⟨d, 0, none⟩)
      | 8 => .pointer (some ⟨d, 1, none⟩)
      | 9 => undef
      | _ => undef) [9] TT hmx (by kernel_rfl) (by kernel_rfl) (by kernel_rfl) (by kernel_rfl) HT0.out ?_ ?_ (by decide)
    · intro i o ho s a hsr hlo hhi hout haf hun
      have e1 := getq (show a.tmps.getD 1 undef = Value.pointer (some { block := b2, off := 0 }) from hout 1 (notDst_spec (by kernel_rfl)))
      have e2 := getq (show a.tmps.getD 2 undef = Value.pointer (some { block := b3, off := 0 }) from hout 2 (notDst_spec (by kernel_rfl)))
      clear hout
      match i, ho, hlo, hhi, haf, hun with
      | 0, ho, hlo, hhi, haf, hun =>
        obtain rfl := Option.some.inj ho
        obtain rfl : s = 0 := by have := hhi 0 (by decide) (.inr (by kernel_rfl)); simp at hsr; omega
        refine step_c (w' := TT 0) rfl fun K hK => ?_
        simp only [List.getElem_toArray, List.getElem_cons_zero] at hK ⊢
        clear haf hlo hhi hun ho hsr
        go_simp
        exact hK
      | 1, ho, hlo, hhi, haf, hun =>
        obtain rfl := Option.some.inj ho
        have f0 := getq (show a.tmps.getD 12 undef = .pointer (some ⟨d, 0, none⟩) from haf ⟨0, .data⟩ (by simp) rfl 12 rfl)
        obtain rfl : s = 0 := by have := hhi 0 (by decide) (.inr (by kernel_rfl)); simp at hsr; omega
        refine step_c (w' := TT 0) rfl fun K hK => ?_
        simp only [List.getElem_toArray, List.getElem_cons_succ, List.getElem_cons_zero] at hK ⊢
        clear haf hlo hhi hun ho hsr
        go_simp
        exact hK
      | 2, ho, hlo, hhi, haf, hun =>
        obtain rfl := Option.some.inj ho
        have f1 := getq (show a.tmps.getD 13 undef = .pointer (some ⟨d, 0, none⟩) from haf ⟨1, .data⟩ (by simp) rfl 13 rfl)
        obtain rfl : s = 0 := by have := hhi 0 (by decide) (.inr (by kernel_rfl)); simp at hsr; omega
        refine step_c (w' := TT 0) rfl fun K hK => ?_
        simp only [List.getElem_toArray, List.getElem_cons_succ, List.getElem_cons_zero] at hK ⊢
        clear haf hlo hhi hun ho hsr
        go_simp
        exact hK
      | 3, ho, hlo, hhi, haf, hun =>
        obtain rfl := Option.some.inj ho
        have f2 := getq (show a.tmps.getD 14 undef = .pointer (some ⟨d, 1, none⟩) from haf ⟨2, .data⟩ (by simp) rfl 14 rfl)
        obtain rfl : s = 0 := by have := hhi 0 (by decide) (.inr (by kernel_rfl)); simp at hsr; omega
        refine step_c (w' := TT 0) rfl fun K hK => ?_
        simp only [List.getElem_toArray, List.getElem_cons_succ, List.getElem_cons_zero] at hK ⊢
        clear haf hlo hhi hun ho hsr
        go_simp
        exact hK
      | 4, ho, hlo, hhi, haf, hun =>
        obtain rfl := Option.some.inj ho
        obtain rfl : s = 0 := by have := hhi 0 (by decide) (.inr (by kernel_rfl)); simp at hsr; omega
        refine step_c (w' := TT 0) rfl fun K hK => ?_
        simp only [List.getElem_toArray, List.getElem_cons_succ, List.getElem_cons_zero] at hK ⊢
        clear haf hlo hhi hun ho hsr
        go_simp
        exact hK
      | 5, ho, hlo, hhi, haf, hun =>
        obtain rfl := Option.some.inj ho
        have f4 := getq (show a.tmps.getD 16 undef = .slice ua l.length uc from haf ⟨4, .data⟩ (by simp) rfl 16 rfl)
        obtain rfl : s = 0 := by have := hhi 0 (by decide) (.inr (by kernel_rfl)); simp at hsr; omega
        refine step_c (w' := TT 0) rfl fun K hK => ?_
        simp only [List.getElem_toArray, List.getElem_cons_succ, List.getElem_cons_zero] at hK ⊢
        clear haf hlo hhi hun ho hsr
        go_simp
        exact hK
      | 6, ho, hlo, hhi, haf, hun =>
        obtain rfl := Option.some.inj ho
        have f3 := getq (show a.tmps.getD 15 undef = .int .i64 (S.used : Int) from haf ⟨3, .data⟩ (by simp) rfl 15 rfl)
        have f5 := getq (show a.tmps.getD 17 undef = .int .i64 (l.length : Int) from haf ⟨5, .data⟩ (by simp) rfl 17 rfl)
        obtain rfl : s = 0 := by have := hhi 0 (by decide) (.inr (by kernel_rfl)); simp at hsr; omega
        refine step_c (w' := TT 0) rfl fun K hK => ?_
        simp only [List.getElem_toArray, List.getElem_cons_succ, List.getElem_cons_zero] at hK ⊢
        clear haf hlo hhi hun ho hsr
        go_simp
        rw [HWR.out]
        exact hK
      | 7, ho, hlo, hhi, haf, hun =>
        obtain rfl := Option.some.inj ho
        have f0 := getq (show a.tmps.getD 12 undef = .pointer (some ⟨d, 0, none⟩) from haf ⟨0, .data⟩ (by simp) rfl 12 rfl)
        obtain rfl : s = 0 := by have := hhi 0 (by decide) (.inr (by kernel_rfl)); simp at hsr; omega
        refine step_c (w' := TT 0) rfl fun K hK => ?_
        simp only [List.getElem_toArray, List.getElem_cons_succ, List.getElem_cons_zero] at hK ⊢
        clear haf hlo hhi hun ho hsr
        go_simp
        exact hK
      | 8, ho, hlo, hhi, haf, hun =>
        obtain rfl := Option.some.inj ho
        have f7 := getq (show a.tmps.getD 19 undef = .pointer (some ⟨d, 0, none⟩) from haf ⟨7, .data⟩ (by simp) rfl 19 rfl)
        obtain rfl : s = 0 := by have := hhi 0 (by decide) (.inr (by kernel_rfl)); simp at hsr; omega
        refine step_c (w' := TT 0) rfl fun K hK => ?_
        simp only [List.getElem_toArray, List.getElem_cons_succ, List.getElem_cons_zero] at hK ⊢
        clear haf hlo hhi hun ho hsr
        go_simp
        exact hK
      | 9, ho, hlo, hhi, haf, hun =>
        obtain rfl := Option.some.inj ho
        have f8 := getq (show a.tmps.getD 20 undef = .pointer (some ⟨d, 1, none⟩) from haf ⟨8, .data⟩ (by simp) rfl 20 rfl)
        have f6 := getq (show a.tmps.getD 18 undef = .int .i64 ((S.used : Int) + (l.length : Int)) from haf ⟨6, .data⟩ (by simp) rfl 18 rfl)
        obtain rfl : s = 0 := by have := hhi 0 (by decide) (.inl (by kernel_rfl)); omega
        refine step_c (w' := TT 1) rfl fun K hK => ?_
        simp only [List.getElem_toArray, List.getElem_cons_succ, List.getElem_cons_zero] at hK ⊢
        clear haf hlo hhi hun ho hsr
        rw [HT1.out] at hK
        go_simp
        exact hK
      | n + 10, ho, _, _, _, _ => simp at ho
    · intro aa hdf hsz hout hval
      have hat : aa.tmps = #[Value.pointer (some { block := b1, off := 0 }), Value.pointer (some { block := b2, off := 0 }), Value.pointer (some { block := b3, off := 0 }), Value.pointer (some { block := e.blk, off := 0 }), Value.pointer (some { block := e.blk, off := 0 }), Value.pointer (some { block := e.blk, off := 0 }), Value.pointer (some { block := e.blk, off := 0 }), Value.slice av e.dat.length cv, Value.slice ua l.length uc, Value.slice a' (e.dat.length + l.length) c', Value.pointer (some { block := e.blk, off := 0 }), Value.pointer (some { block := e.blk, off := 0 }), .pointer (some ⟨d, 0, none⟩), .pointer (some ⟨d, 0, none⟩), .pointer (some ⟨d, 1, none⟩), .int .i64 (S.used : Int), .slice ua l.length uc, .int .i64 (l.length : Int), .int .i64 ((S.used : Int) + (l.length : Int)), .pointer (some ⟨d, 0, none⟩), .pointer (some ⟨d, 1, none⟩)] := by
        refine arr_one (hsz.trans rfl) fun kk hkk => ?_
        match kk, hkk with
        | 0, _ => exact hout 0 (notDst_spec (by kernel_rfl))
        | 1, _ => exact hout 1 (notDst_spec (by kernel_rfl))
        | 2, _ => exact hout 2 (notDst_spec (by kernel_rfl))
        | 3, _ => exact hout 3 (notDst_spec (by kernel_rfl))
        | 4, _ => exact hout 4 (notDst_spec (by kernel_rfl))
        | 5, _ => exact hout 5 (notDst_spec (by kernel_rfl))
        | 6, _ => exact hout 6 (notDst_spec (by kernel_rfl))
        | 7, _ => exact hout 7 (notDst_spec (by kernel_rfl))
        | 8, _ => exact hout 8 (notDst_spec (by kernel_rfl))
        | 9, _ => exact hout 9 (notDst_spec (by kernel_rfl))
        | 10, _ => exact hout 10 (notDst_spec (by kernel_rfl))
        | 11, _ => exact hout 11 (notDst_spec (by kernel_rfl))
        | 12, _ => exact hval 0 12 (by decide) rfl
        | 13, _ => exact hval 1 13 (by decide) rfl
        | 14, _ => exact hval 2 14 (by decide) rfl
        | 15, _ => exact hval 3 15 (by decide) rfl
        | 16, _ => exact hval 4 16 (by decide) rfl
        | 17, _ => exact hval 5 17 (by decide) rfl
        | 18, _ => exact hval 6 18 (by decide) rfl
        | 19, _ => exact hval 7 19 (by decide) rfl
        | 20, _ => exact hval 8 20 (by decide) rfl
        | n + 21, h => exact absurd h (by simp)
      obtain ⟨tt, dd⟩ := aa
      simp only at hat hdf
      subst hat hdf
      clear hsz hout hval
      rw [show TT [9].length = TT 1 from rfl]
      go_end0
      exact ⟨⟨_, rfl⟩, HFIN.out⟩
    --END b
  --END a
theorem rAppend_no {S : Ds} {s : ByteArray} {l : List Nat} (h : look S s true ≠ 0) : rAppend S s l = look S s true := by unfold rAppend; rw [if_pos h]
theorem rAppend_in {S : Ds} {s : ByteArray} {l : List Nat} (h : look S s true = 0) : rAppend S s l = if S.cap - S.used < l.length then 73 else 0 := by unfold rAppend; rw [if_neg (by omega)]
set_option maxRecDepth 100000 in
set_option maxHeartbeats 1000000 in
theorem append_is (w : World) (d : Nat) (O : Nat → Prop) (S : Ds) (s : ByteArray) (u : Value) (l : List Nat) (h : DK w d O S) (ha : S.acts < 4611686018427387904) (hI : IsB w u l) (hn : l ≠ [] → ∀ b off n c, u = .slice (some ⟨b, off, none⟩) n c → b ≠ d) :
    Calls Tryz.prog 56 #[.pointer (some ⟨d, 0, none⟩), .string s, u] w fun e w' => e = .returned (.int .i64 ((append S s l).1 : Int)) ∧ Nx O w d (append S s l).2 w' := by
  obtain ⟨m, es, h⟩ := h
  obtain ⟨ua, uc, rfl⟩ := hI.shape
  obtain ⟨W, hW⟩ : ∃ W, W = (w.alloc (.cells #[.pointer (some ⟨d, 0, none⟩)] 23)).alloc (.cells #[.slice ua l.length uc] 31) := ⟨_, rfl⟩
  have hK : DKm W d m es O S := by rw [hW]; exact (h.alloc _).alloc _
  have htW : Tr O w W := by rw [hW]; exact (Tr.alloc O w _).trans (Tr.alloc O _ _) fun x q => .inl q
  have hb1 : Blk W w.heap.size 23 [.pointer (some ⟨d, 0, none⟩)] := by rw [hW]; exact (Blk.new w _ [.pointer (some ⟨d, 0, none⟩)]).alloc _
  have hb2 : Blk W (w.heap.size + 1) 31 [.slice ua l.length uc] := by
    rw [hW]
    have := Blk.new (w.alloc (.cells #[.pointer (some ⟨d, 0, none⟩)] 23)) 31 [.slice ua l.length uc]
    rwa [alloc_size] at this
  have hWs : W.heap.size = w.heap.size + 2 := by rw [hW, alloc_size, alloc_size]
  have hIW : IsB W (.slice ua l.length uc) l := by rw [hW]; exact hI.below (((Below.refl _ w).alloc (Nat.le_refl _) _).alloc (by simp) _)
  obtain ⟨p, hp, hp0⟩ := fans_eq hK s true
  have HF := hd (find_is W d m es O S s true hK)
  rw [hp] at HF
  have HA : Hid (∀ n, Calls Tryz.prog 43 #[.pointer (some ⟨d, 0, none⟩), .int .i64 (rAppend S s l : Int), .func (.func 79) #[] #[.pointer (some ⟨w.heap.size + 2, 0, none⟩), .pointer (some ⟨w.heap.size + 1, 0, none⟩), .pointer (some ⟨w.heap.size, 0, none⟩)]] ((W.alloc (.cells #[.pointer p] TP)).drewN n) fun e w' => e = .returned (.int .i64 ((append S s l).1 : Int)) ∧ Nx O w d (append S s l).2 w') := by
    intro n
    refine (act_nx _ d m es O S _ _ (rAppend S s l) (gAppend s l) ((hK.alloc _).drewN n) ha (cf38 _) ?_).mono ?_
    · intro h0 w1 ht h1
      have hz : look S s true = 0 := by
        by_cases q : look S s true = 0
        · exact q
        · rw [rAppend_no q] at h0; exact absurd h0 q
      rw [rAppend_in hz] at h0
      have hrm : S.used + l.length ≤ S.cap := by
        have := h.good.room
        by_cases q : S.cap - S.used < l.length
        · rw [if_pos q] at h0; omega
        · omega
      obtain ⟨e, hfe, rfl, _⟩ := hp0 hz
      have hb3 : Blk (W.alloc (.cells #[.pointer (some ⟨e.blk, 0, none⟩)] TP)) (w.heap.size + 2) TP [.pointer (some ⟨e.blk, 0, none⟩)] := by
        have := Blk.new W TP [.pointer (some ⟨e.blk, 0, none⟩)]
        rwa [hWs] at this
      have hdl := h.box.lt
      refine append1_is w1 d m es O (tick S) s e _ _ _ ua uc l h1 hfe ((ht.block _ hb3.lt (by omega)).trans hb3) ((ht.block _ (hb2.alloc _).lt (by omega)).trans (hb2.alloc _)) ((ht.block _ (hb1.alloc _).lt (by omega)).trans (hb1.alloc _)) ?_ hrm
      have hIA : IsB (W.alloc (.cells #[.pointer (some ⟨e.blk, 0, none⟩)] TP)) (.slice ua l.length uc) l := hIW.below ((Below.refl _ W).alloc (Nat.le_refl _) _)
      obtain ⟨q1, q2, q3 | ⟨b, off, c, q3, q4, q5, q6, q7⟩⟩ := hIA
      · exact ⟨q1, q2, .inl q3⟩
      · by_cases hl0 : l = []
        · subst hl0; exact isK_nil _ _ _ _ _
        have hbd : b ≠ d := hn hl0 b off l.length c q3
        exact ⟨q1, q2, .inr ⟨b, off, c, q3, q4, q5, Nat.lt_of_lt_of_le q6 ht.size, fun i hi => (World.cell?_of_block (ht.block b q6 hbd)).trans (q7 i hi)⟩⟩
    · rintro e w' ⟨rfl, hn⟩
      exact ⟨rfl, hn.after ((htW.trans (Tr.alloc O W _) fun x q => .inl q).trans (Tr.drewN O _ n) fun x q => .inl q)⟩
  obtain ⟨V, hV⟩ : ∃ V, V = W.alloc (.cells #[.pointer p] TP) := ⟨_, rfl⟩
  have hKV : DKm V d m es O S := by rw [hV]; exact hK.alloc _
  have cw : W.cell? ⟨w.heap.size, 0, none⟩ = some (.pointer (some ⟨d, 0, none⟩)) := hb1.cell 0 _ rfl
  have c0 : ∀ n, (V.drewN n).cell? ⟨w.heap.size, 0, none⟩ = some (.pointer (some ⟨d, 0, none⟩)) := fun n => by rw [hV]; exact (hb1.alloc _).cell 0 _ rfl
  have c1 : ∀ n, (V.drewN n).cell? ⟨w.heap.size + 1, 0, none⟩ = some (.slice ua l.length uc) := fun n => by rw [hV]; exact (hb2.alloc _).cell 0 _ rfl
  have c2 : ∀ n, (V.drewN n).cell? ⟨d, 0, none⟩ = some (.int .i64 (S.cap : Int)) := fun n => (hKV.drewN n).box.cell 0 _ rfl
  have c3 : ∀ n, (V.drewN n).cell? ⟨d, 1, none⟩ = some (.int .i64 (S.used : Int)) := fun n => (hKV.drewN n).box.cell 1 _ rfl
  rw [← hV] at HA
  have HW := hd hW
  have HV := hd hV
  have hWs' := hd hWs
  have hroom := h.good.room
  have hcap := h.good.cap
  obtain ⟨r, hr⟩ : ∃ r, look S s true = r := ⟨_, rfl⟩
  rw [hr] at HF
  have HR := hd hr
  have hlm : l.length ≤ maxLen := hI.2.1
  unfold maxLen at hlm
  clear h hW hV hK hKV htW hb1 hb2 hp hp0 hI hIW hr hWs hn
  go_enter Tryz.func56, Tryz.ntmps56
  go_wp2_with fail
  rw [← HW.out]
  refine Calls.mono HF.out ?_
  rintro e w1 ⟨rfl, rfl⟩
  go_wp2_with fail
  rw [hWs'.out, ← HV.out]
  by_cases hr0 : r = 0
  · subst hr0
    have HRA := hd (rAppend_in (l := l) HR.out)
    by_cases hlt : S.cap - S.used < l.length
    · have hlt' : (S.cap : Int) - (S.used : Int) < (l.length : Int) := by omega
      have HRB : Hid (rAppend S s l = 73) := by show _ = _; rw [HRA.out, if_pos hlt]
      rw [HRB.out] at HA
      go_quiet (fail)
      go_wp2_with fail
      refine Calls.mono (HA.out _) ?_
      rintro e w1 ⟨rfl, hn⟩
      have HN := hd hn
      clear hn HA
      go_wp2_with fail
      go_ret
      exact ⟨rfl, HN.out⟩
    · have hlt' : ¬ (S.cap : Int) - (S.used : Int) < (l.length : Int) := by omega
      have HRB : Hid (rAppend S s l = 0) := by show _ = _; rw [HRA.out, if_neg hlt]
      rw [HRB.out] at HA
      go_quiet (fail)
      go_wp2_with fail
      refine Calls.mono (HA.out _) ?_
      rintro e w1 ⟨rfl, hn⟩
      have HN := hd hn
      clear hn HA
      go_wp2_with fail
      go_ret
      exact ⟨rfl, HN.out⟩
  · have hr0' : ¬ ((r : Int) = 0) := by omega
    have HRB : Hid (rAppend S s l = r) := by show _ = _; rw [rAppend_no (by rw [HR.out]; exact hr0), HR.out]
    rw [HRB.out] at HA
    go_quiet (fail)
    go_wp2_with fail
    refine Calls.mono (HA.out _) ?_
    rintro e w1 ⟨rfl, hn⟩
    have HN := hd hn
    clear hn HA
    go_wp2_with fail
    go_ret
    exact ⟨rfl, HN.out⟩
end Dk
end Go.Proofs.YtnakaomgceoobaaGreat
namespace Go.Proofs.YtnakaomgceoobaaGreat
open Go.RowKit Go.Maps
namespace Dk
open Vt
attribute [local go_sem ↓] append_hid
theorem jb_empty (w : World) : JB (w.alloc (.cells #[] 5)) 0 (.slice (some ⟨w.heap.size, 0, none⟩) 0 0) [] :=
  ⟨byt_nil, rfl, .inr ⟨w.heap.size, 0, #[], rfl, Nat.zero_le _, (MapKept.heap_alloc w _).1, Nat.le_refl _, by decide, rfl, rfl⟩⟩
/-- what Clone leaves -/
def Cl (w : World) (l : List Nat) (e : Ending) (w' : World) : Prop := ∃ a' c', e = .returned (.slice a' l.length c') ∧ JB w' 0 (.slice a' l.length c') l ∧ w.grownBy w' none ∧ ∀ g, (Value.slice a' l.length c').ownBlock = some g → w.heap.size ≤ g
set_option maxRecDepth 100000 in
theorem clone_is (w : World) (v : Value) (l : List Nat) (hI : IsB w v l) (hl : l.length ≤ 140737488355328) : Calls Tryz.prog 28 #[v] w fun e w' => Cl w l e w' := by
  obtain ⟨a, c, rfl⟩ := hI.shape
  cases a with
  | none =>
    obtain rfl : l = [] := by
      obtain ⟨_, _, ⟨h, _⟩ | ⟨b, off, c', h, _⟩⟩ := hI
      · exact h
      · cases h
    have he : ∀ w : World, (binOp .eql 31 (.slice none 0 c) (.slice none 0 0)).run Tryz.prog w = .ok (.bool true) w := fun _ => rfl
    go_enter Tryz.func28, Tryz.ntmps28
    go_wp2_with fail
    go_ret
    exact ⟨none, 0, rfl, jb_nil _ _, World.grownBy.refl _ _, fun g q => by cases q⟩
  | some x =>
    have hI1 : IsB (w.alloc (.cells #[] 5)) (.slice (some x) l.length c) l := hI.below ((Below.refl _ w).alloc (Nat.le_refl _) _)
    obtain ⟨a', c', w1, hr, hJ1, hg1, hl1⟩ := run_append_jbl 31 (w.alloc (.cells #[] 5)) 0 _ _ [] l (jb_empty w) hI1 (by simpa using hl) (Nat.zero_le _)
    rw [append_hid] at hr
    simp only [List.length_nil, Nat.zero_add, List.nil_append] at hr hJ1 hl1
    have HJ : Hid (Cl w l (.returned (.slice a' l.length c')) w1) := by
      refine ⟨a', c', rfl, hJ1, ?_, fun g q => ?_⟩
      · refine ⟨hg1.os, hg1.tape, hg1.output, by have := hg1.size; rw [alloc_size] at this; omega, fun k hk _ => ?_⟩
        rw [hg1.block k (by rw [alloc_size]; omega) (fun q => by simp [Value.ownBlock] at q; omega)]
        exact (MapKept.heap_alloc w _).2 k hk
      · rcases hl1 g q with z | z
        · simp [Value.ownBlock] at z; omega
        · rw [alloc_size] at z; omega
    clear hJ1 hg1 hl1 hI hI1
    have he : ∀ w : World, (binOp .eql 31 (.slice (some x) l.length c) (.slice none 0 0)).run Tryz.prog w = .ok (.bool false) w := fun _ => rfl
    go_enter Tryz.func28, Tryz.ntmps28
    go_wp2_with fail
    go_ret
    exact HJ.out
/-! ### a slice's beginning, its end, min and max, as words of our own -/
def slO (t : TypeId) (x : Value) (lo hi mx : Option Value) : Sem Value := Instr.slice t x lo hi mx
theorem slice_hid (t : TypeId) (x : Value) (lo hi mx : Option Value) : Instr.slice t x lo hi mx = slO t x lo hi mx := rfl
def mnO (ts : Array TypeId) (t : TypeId) (a : Array Value) : Sem Value := Builtin.min_ ts t a
theorem min_hid (ts : Array TypeId) (t : TypeId) (a : Array Value) : Builtin.min_ ts t a = mnO ts t a := rfl
def mxO (ts : Array TypeId) (t : TypeId) (a : Array Value) : Sem Value := Builtin.max_ ts t a
theorem max_hid (ts : Array TypeId) (t : TypeId) (a : Array Value) : Builtin.max_ ts t a = mxO ts t a := rfl
theorem run_mnO (ts : Array TypeId) (t : TypeId) (x y : Int) (z : Int) (hz : z = if y < x then y else x) (w : World) : (mnO ts t #[.int .i64 x, .int .i64 y]).run Tryz.prog w = .ok (.int .i64 z) w := by
  rw [hz]; exact run_min_int2 w ts t .i64 .i64 x y
theorem run_mxO (ts : Array TypeId) (t : TypeId) (x y : Int) (z : Int) (hz : z = if y > x then y else x) (w : World) : (mxO ts t #[.int .i64 x, .int .i64 y]).run Tryz.prog w = .ok (.int .i64 z) w := by
  rw [hz]; exact run_max_int2 w ts t .i64 .i64 x y
theorem elem8 : Tryz.prog.elem 31 = 5 := by kernel_rfl
theorem size8 (w : World) : (sizeOf 5).run Tryz.prog w = .ok 1 w := by kernel_rfl
/-- of a list the elements from k on -/
theorem run_slO_from {w0 : World} {base : Nat} {v : Value} {l : List Nat} (hJ : JB w0 base v l) (k : Nat) (hk : k ≤ l.length) : ∃ va vc, (∀ w, (slO 31 v (some (.int .i64 (k : Int))) none none).run Tryz.prog w = .ok (.slice va (l.length - k) vc) w) ∧ IsB w0 (.slice va (l.length - k) vc) (l.drop k) := by
  have hB := hJ.isB
  obtain ⟨a, c, rfl, hlc⟩ := hJ.shape
  have hr : ∀ w, (slO 31 (.slice a l.length c) (some (.int .i64 (k : Int))) none none).run Tryz.prog w = .ok (sliced a k l.length c 1) w := by
    intro w
    have := run_slice_l (P := Tryz.prog) w 31 a l.length c (by rw [elem8]; exact Tryz.underlying31) .i64 (k : Int) (by omega) (by omega)
    rw [elem8, size8] at this
    exact this
  refine ⟨_, _, hr, ?_⟩
  cases a with
  | none =>
    have hl0 : l = [] := by
      obtain ⟨_, _, ⟨h, _⟩ | ⟨b, off, c', h, _⟩⟩ := hB
      · exact h
      · cases h
    subst hl0
    have : k = 0 := by simpa using hk
    subst this
    simp only [List.length_nil, Nat.sub_zero, List.drop_nil]
    exact isK_nil _ _ _ _ _
  | some x =>
    obtain ⟨g, rfl⟩ : ∃ g, x = ⟨g, 0, none⟩ := by
      obtain ⟨_, _, ⟨q, _⟩ | ⟨g', cap, cur, q, _⟩⟩ := hJ
      · cases q
      · injection q with q; injection q with q; exact ⟨_, q⟩
    have := hB.dropIf k hk hlc
    simp only [Option.map_some, Nat.mul_one, add_at]
    exact this
/-- of a list the first k elements -/
theorem run_slO_to {w0 : World} {a : Option Addr} {c : Nat} {l : List Nat} (hB : IsB w0 (.slice a l.length c) l) (hc : l.length ≤ c) (k : Nat) (hk : k ≤ l.length) : (∀ w, (slO 31 (.slice a l.length c) none (some (.int .i64 (k : Int))) none).run Tryz.prog w = .ok (.slice a k c) w) ∧ IsB w0 (.slice a k c) (l.take k) := by
  refine ⟨fun w => ?_, hB.take k hk⟩
  have := run_slice_h (P := Tryz.prog) w 31 a l.length c (by rw [elem8]; exact Tryz.underlying31) .i64 (k : Int) (by omega) (by omega)
  rw [elem8, size8] at this
  have e : (if c = 0 then a else a.map (·.add (0 * 1))) = a := by
    cases a with
    | none => split <;> rfl
    | some x =>
      split
      · rfl
      · rw [Nat.zero_mul]; simp [Addr.add]
  have e2 : sliced a 0 ((k : Int)).toNat c 1 = .slice a k c := by
    unfold sliced
    rw [e, Int.toNat_natCast, Nat.sub_zero, Nat.sub_zero]
  rw [← e2]
  exact this
end Dk
end Go.Proofs.YtnakaomgceoobaaGreat
namespace Go.Proofs.YtnakaomgceoobaaGreat
open Go.RowKit Go.Maps
namespace Dk
open Vt
attribute [local go_sem ↓] slice_hid min_hid max_hid
theorem cf41 (caps : Array Value) (w : World) : (callFunc 44 caps).run Tryz.prog w = .ok (.enter 44 caps) w := by kernel_rfl
set_option maxRecDepth 100000 in
set_option maxHeartbeats 1000000 in
theorem read1_is (w : World) (fb b1 b2 b3 b4 : Nat) (v ov : Value) (dat : List Nat) (las : Int) (at_ n : Nat) (hfb : Blk w fb TF [v, .int .i64 las]) (hJ : JB w 0 v dat) (h1 : Blk w b1 TP [.pointer (some ⟨fb, 0, none⟩)]) (h2 : Blk w b2 3 [.int .i64 (at_ : Int)]) (h3 : Blk w b3 3 [.int .i64 (n : Int)]) (h4 : Blk w b4 31 [ov]) (hl : dat.length ≤ 4194304) :
    Calls Tryz.prog 44 #[.pointer (some ⟨b1, 0, none⟩), .pointer (some ⟨b2, 0, none⟩), .pointer (some ⟨b3, 0, none⟩), .pointer (some ⟨b4, 0, none⟩)] w fun e w2 => (∃ u, e = .returned u) ∧ ∃ a' c', Blk w2 b4 31 [.slice a' ((dat.drop at_).take n).length c'] ∧ JB w2 0 (.slice a' ((dat.drop at_).take n).length c') ((dat.drop at_).take n) ∧ Tr (fun b => b = b4) w w2 ∧ ∀ g, (Value.slice a' ((dat.drop at_).take n).length c').ownBlock = some g → w.heap.size ≤ g := by
  have hmx : Tryz.prog.follows .mixedOrders = true := by kernel_rfl
  obtain ⟨av, cv, rfl, hlc⟩ := hJ.shape
  obtain ⟨SS, hS0⟩ : ∃ SS : Nat → World, SS 0 = w.drew := ⟨fun _ => w.drew, rfl⟩
  have C1 : (SS 0).cell? ⟨b1, 0, none⟩ = some (.pointer (some ⟨fb, 0, none⟩)) := by rw [hS0]; exact h1.cell 0 _ rfl
  have C2 : (SS 0).cell? ⟨fb, 0, none⟩ = some (.slice av dat.length cv) := by rw [hS0]; exact hfb.cell 0 _ rfl
  have C3 : (SS 0).cell? ⟨b2, 0, none⟩ = some (.int .i64 (at_ : Int)) := by rw [hS0]; exact h2.cell 0 _ rfl
  have C4 : (SS 0).cell? ⟨b3, 0, none⟩ = some (.int .i64 (n : Int)) := by rw [hS0]; exact h3.cell 0 _ rfl
  obtain ⟨k, hk⟩ : ∃ k, k = min at_ dat.length := ⟨_, rfl⟩
  have R1 : ∀ w, (mnO #[3, 3] 3 #[.int .i64 (at_ : Int), .int .i64 (dat.length : Int)]).run Tryz.prog w = .ok (.int .i64 (k : Int)) w := run_mnO _ _ _ _ _ (by split <;> omega)
  have hkl : k ≤ dat.length := by omega
  obtain ⟨va, vc, R2, hB2⟩ := run_slO_from hJ k hkl
  have hdl : (dat.drop k).length = dat.length - k := List.length_drop
  have hvc : (dat.drop k).length ≤ vc := by
    have := hB2.cap
    exact this
  obtain ⟨q, hq⟩ : ∃ q, q = min n (dat.length - k) := ⟨_, rfl⟩
  have R3 : ∀ w, (mnO #[3, 3] 3 #[.int .i64 (n : Int), .int .i64 ((dat.length - k : Nat) : Int)]).run Tryz.prog w = .ok (.int .i64 (q : Int)) w := run_mnO _ _ _ _ _ (by split <;> omega)
  have hB2' : IsB w (.slice va (dat.drop k).length vc) (dat.drop k) := by rw [hdl]; exact hB2
  obtain ⟨R4, hB4⟩ := run_slO_to hB2' hvc q (by rw [hdl]; omega)
  rw [hdl] at R4
  have hres : (dat.drop k).take q = (dat.drop at_).take n := by
    rcases Nat.le_total at_ dat.length with z | z
    · have : k = at_ := by omega
      subst this
      rw [hq]
      rcases Nat.le_total n (dat.length - k) with z2 | z2
      · rw [Nat.min_eq_left z2]
      · rw [Nat.min_eq_right z2, List.take_of_length_le (by rw [hdl]; omega), List.take_of_length_le (by rw [hdl]; omega)]
    · have : k = dat.length := by omega
      rw [this, List.drop_of_length_le (Nat.le_refl _), List.drop_of_length_le z, List.take_nil, List.take_nil]
  rw [hres] at hB4
  have HC := hd (clone_is w.drew _ _ hB4 (by rw [List.length_take, List.length_drop]; omega))
  have HH4 := hd h4
  have HS0 := hd hS0
  clear hS0 h1 h2 h3 h4 hfb hJ hB2 hB2' hB4 hres hk hq hdl hvc
  generalize (dat.drop at_).take n = res at *
  go_enter Tryz.func44, Tryz.ntmps44
  go_wp2_with fail
  --REGION a
  refine region_chain (fun i => match i with
    | 0 => .pointer (some ⟨fb, 0, none⟩)
    | 1 => .pointer (some ⟨fb, 0, none⟩)
    | 2 => .pointer (some ⟨fb, 0, none⟩)
    | 3 => .slice av dat.length cv
    | 4 => .int .i64 (at_ : Int)
    | 5 => .pointer (some ⟨fb, 0, none⟩)
    | 6 => .pointer (some ⟨fb, 0, none⟩)
    | 7 => .pointer (some ⟨fb, 0, none⟩)
    | 8 => .slice av dat.length cv
    | 9 => .int .i64 (dat.length : Int)
    | 10 => .int .i64 (k : Int)
    | 11 => .slice va (dat.length - k) vc
    | 12 => .slice va (dat.length - k) vc
    | _ => undef) [] SS hmx (by kernel_rfl) (by kernel_rfl) (by kernel_rfl) (by kernel_rfl) HS0.out ?_ ?_ (by decide)
  · intro i o ho s a hsr hlo hhi hout haf hun
    have e0 := getq (show a.tmps.getD 0 undef = Value.pointer (some { block := b1, off := 0 }) from hout 0 (notDst_spec (by kernel_rfl)))
    have e1 := getq (show a.tmps.getD 1 undef = Value.pointer (some { block := b2, off := 0 }) from hout 1 (notDst_spec (by kernel_rfl)))
    clear hout
    match i, ho, hlo, hhi, haf, hun with
    | 0, ho, hlo, hhi, haf, hun =>
      obtain rfl := Option.some.inj ho
      obtain rfl : s = 0 := by simp at hsr; omega
      refine step_c (w' := SS 0) rfl fun K hK => ?_
      simp only [List.getElem_toArray, List.getElem_cons_zero] at hK ⊢
      clear haf hlo hhi hun ho hsr
      go_simp
      exact hK
    | 1, ho, hlo, hhi, haf, hun =>
      obtain rfl := Option.some.inj ho
      have f0 := getq (show a.tmps.getD 5 undef = .pointer (some ⟨fb, 0, none⟩) from haf ⟨0, .data⟩ (by simp) rfl 5 rfl)
      obtain rfl : s = 0 := by simp at hsr; omega
      refine step_c (w' := SS 0) rfl fun K hK => ?_
      simp only [List.getElem_toArray, List.getElem_cons_succ, List.getElem_cons_zero] at hK ⊢
      clear haf hlo hhi hun ho hsr
      go_simp
      exact hK
    | 2, ho, hlo, hhi, haf, hun =>
      obtain rfl := Option.some.inj ho
      have f1 := getq (show a.tmps.getD 6 undef = .pointer (some ⟨fb, 0, none⟩) from haf ⟨1, .data⟩ (by simp) rfl 6 rfl)
      obtain rfl : s = 0 := by simp at hsr; omega
      refine step_c (w' := SS 0) rfl fun K hK => ?_
      simp only [List.getElem_toArray, List.getElem_cons_succ, List.getElem_cons_zero] at hK ⊢
      clear haf hlo hhi hun ho hsr
      go_simp
      exact hK
    | 3, ho, hlo, hhi, haf, hun =>
      obtain rfl := Option.some.inj ho
      have f2 := getq (show a.tmps.getD 7 undef = .pointer (some ⟨fb, 0, none⟩) from haf ⟨2, .data⟩ (by simp) rfl 7 rfl)
      obtain rfl : s = 0 := by simp at hsr; omega
      refine step_c (w' := SS 0) rfl fun K hK => ?_
      simp only [List.getElem_toArray, List.getElem_cons_succ, List.getElem_cons_zero] at hK ⊢
      clear haf hlo hhi hun ho hsr
      go_simp
      exact hK
    | 4, ho, hlo, hhi, haf, hun =>
      obtain rfl := Option.some.inj ho
      obtain rfl : s = 0 := by simp at hsr; omega
      refine step_c (w' := SS 0) rfl fun K hK => ?_
      simp only [List.getElem_toArray, List.getElem_cons_succ, List.getElem_cons_zero] at hK ⊢
      clear haf hlo hhi hun ho hsr
      go_simp
      exact hK
    | 5, ho, hlo, hhi, haf, hun =>
      obtain rfl := Option.some.inj ho
      obtain rfl : s = 0 := by simp at hsr; omega
      refine step_c (w' := SS 0) rfl fun K hK => ?_
      simp only [List.getElem_toArray, List.getElem_cons_succ, List.getElem_cons_zero] at hK ⊢
      clear haf hlo hhi hun ho hsr
      go_simp
      exact hK
    | 6, ho, hlo, hhi, haf, hun =>
      obtain rfl := Option.some.inj ho
      have f5 := getq (show a.tmps.getD 10 undef = .pointer (some ⟨fb, 0, none⟩) from haf ⟨5, .data⟩ (by simp) rfl 10 rfl)
      obtain rfl : s = 0 := by simp at hsr; omega
      refine step_c (w' := SS 0) rfl fun K hK => ?_
      simp only [List.getElem_toArray, List.getElem_cons_succ, List.getElem_cons_zero] at hK ⊢
      clear haf hlo hhi hun ho hsr
      go_simp
      exact hK
    | 7, ho, hlo, hhi, haf, hun =>
      obtain rfl := Option.some.inj ho
      have f6 := getq (show a.tmps.getD 11 undef = .pointer (some ⟨fb, 0, none⟩) from haf ⟨6, .data⟩ (by simp) rfl 11 rfl)
      obtain rfl : s = 0 := by simp at hsr; omega
      refine step_c (w' := SS 0) rfl fun K hK => ?_
      simp only [List.getElem_toArray, List.getElem_cons_succ, List.getElem_cons_zero] at hK ⊢
      clear haf hlo hhi hun ho hsr
      go_simp
      exact hK
    | 8, ho, hlo, hhi, haf, hun =>
      obtain rfl := Option.some.inj ho
      have f7 := getq (show a.tmps.getD 12 undef = .pointer (some ⟨fb, 0, none⟩) from haf ⟨7, .data⟩ (by simp) rfl 12 rfl)
      obtain rfl : s = 0 := by simp at hsr; omega
      refine step_c (w' := SS 0) rfl fun K hK => ?_
      simp only [List.getElem_toArray, List.getElem_cons_succ, List.getElem_cons_zero] at hK ⊢
      clear haf hlo hhi hun ho hsr
      go_simp
      exact hK
    | 9, ho, hlo, hhi, haf, hun =>
      obtain rfl := Option.some.inj ho
      have f8 := getq (show a.tmps.getD 13 undef = .slice av dat.length cv from haf ⟨8, .data⟩ (by simp) rfl 13 rfl)
      obtain rfl : s = 0 := by simp at hsr; omega
      refine step_c (w' := SS 0) rfl fun K hK => ?_
      simp only [List.getElem_toArray, List.getElem_cons_succ, List.getElem_cons_zero] at hK ⊢
      clear haf hlo hhi hun ho hsr
      go_simp
      exact hK
    | 10, ho, hlo, hhi, haf, hun =>
      obtain rfl := Option.some.inj ho
      have f4 := getq (show a.tmps.getD 9 undef = .int .i64 (at_ : Int) from haf ⟨4, .data⟩ (by simp) rfl 9 rfl)
      have f9 := getq (show a.tmps.getD 14 undef = .int .i64 (dat.length : Int) from haf ⟨9, .data⟩ (by simp) rfl 14 rfl)
      obtain rfl : s = 0 := by simp at hsr; omega
      refine step_c (w' := SS 0) rfl fun K hK => ?_
      simp only [List.getElem_toArray, List.getElem_cons_succ, List.getElem_cons_zero] at hK ⊢
      clear haf hlo hhi hun ho hsr
      go_simp
      exact hK
    | 11, ho, hlo, hhi, haf, hun =>
      obtain rfl := Option.some.inj ho
      have f3 := getq (show a.tmps.getD 8 undef = .slice av dat.length cv from haf ⟨3, .data⟩ (by simp) rfl 8 rfl)
      have f10 := getq (show a.tmps.getD 15 undef = .int .i64 (k : Int) from haf ⟨10, .data⟩ (by simp) rfl 15 rfl)
      obtain rfl : s = 0 := by simp at hsr; omega
      refine step_c (w' := SS 0) rfl fun K hK => ?_
      simp only [List.getElem_toArray, List.getElem_cons_succ, List.getElem_cons_zero] at hK ⊢
      clear haf hlo hhi hun ho hsr
      go_simp
      exact hK
    | 12, ho, hlo, hhi, haf, hun =>
      obtain rfl := Option.some.inj ho
      have f11 := getq (show a.tmps.getD 16 undef = .slice va (dat.length - k) vc from haf ⟨11, .data⟩ (by simp) rfl 16 rfl)
      obtain rfl : s = 0 := by simp at hsr; omega
      refine step_c (w' := SS 0) rfl fun K hK => ?_
      simp only [List.getElem_toArray, List.getElem_cons_succ, List.getElem_cons_zero] at hK ⊢
      clear haf hlo hhi hun ho hsr
      go_simp
      exact hK
    | n + 13, ho, _, _, _, _ => simp at ho
  · intro aa hdf hsz hout hval
    have hat : aa.tmps = #[Value.pointer (some { block := b1, off := 0 }), Value.pointer (some { block := b2, off := 0 }), Value.pointer (some { block := b3, off := 0 }), Value.pointer (some { block := b4, off := 0 }), .slice va (dat.length - k) vc, .pointer (some ⟨fb, 0, none⟩), .pointer (some ⟨fb, 0, none⟩), .pointer (some ⟨fb, 0, none⟩), .slice av dat.length cv, .int .i64 (at_ : Int), .pointer (some ⟨fb, 0, none⟩), .pointer (some ⟨fb, 0, none⟩), .pointer (some ⟨fb, 0, none⟩), .slice av dat.length cv, .int .i64 (dat.length : Int), .int .i64 (k : Int), .slice va (dat.length - k) vc, undef, undef, undef, undef, undef, undef, undef] := by
      refine arr_one (hsz.trans rfl) fun kk hkk => ?_
      match kk, hkk with
      | 0, _ => exact hout 0 (notDst_spec (by kernel_rfl))
      | 1, _ => exact hout 1 (notDst_spec (by kernel_rfl))
      | 2, _ => exact hout 2 (notDst_spec (by kernel_rfl))
      | 3, _ => exact hout 3 (notDst_spec (by kernel_rfl))
      | 4, _ => exact hval 12 4 (by decide) rfl
      | 5, _ => exact hval 0 5 (by decide) rfl
      | 6, _ => exact hval 1 6 (by decide) rfl
      | 7, _ => exact hval 2 7 (by decide) rfl
      | 8, _ => exact hval 3 8 (by decide) rfl
      | 9, _ => exact hval 4 9 (by decide) rfl
      | 10, _ => exact hval 5 10 (by decide) rfl
      | 11, _ => exact hval 6 11 (by decide) rfl
      | 12, _ => exact hval 7 12 (by decide) rfl
      | 13, _ => exact hval 8 13 (by decide) rfl
      | 14, _ => exact hval 9 14 (by decide) rfl
      | 15, _ => exact hval 10 15 (by decide) rfl
      | 16, _ => exact hval 11 16 (by decide) rfl
      | 17, _ => exact hout 17 (notDst_spec (by kernel_rfl))
      | 18, _ => exact hout 18 (notDst_spec (by kernel_rfl))
      | 19, _ => exact hout 19 (notDst_spec (by kernel_rfl))
      | 20, _ => exact hout 20 (notDst_spec (by kernel_rfl))
      | 21, _ => exact hout 21 (notDst_spec (by kernel_rfl))
      | 22, _ => exact hout 22 (notDst_spec (by kernel_rfl))
      | 23, _ => exact hout 23 (notDst_spec (by kernel_rfl))
      | n + 24, h => exact absurd h (by simp)
    obtain ⟨tt, dd⟩ := aa
    simp only at hat hdf
    subst hat hdf
    clear hsz hout hval
    rw [show SS ([] : List Nat).length = w.drew from HS0.out]
    have C4' : w.drew.cell? ⟨b3, 0, none⟩ = some (.int .i64 (n : Int)) := by rw [← HS0.out]; exact C4
    clear C1 C2 C3 C4 R1 R2
    go_wp2_with fail
    refine Calls.mono HC.out ?_
    rintro e w1 ⟨a', c', rfl, hJ1, hg1, hl1⟩
    have hb4 : Blk w1 b4 31 [ov] := Blk.grown (W := w.drew) HH4.out hg1 (by simp)
    have e0 := hb4.cell 0 _ rfl
    have g0 := hb4.frozen 0
    have HJ1 := hd hJ1
    have HG1 := hd hg1
    have HL1 := hd hl1
    have HB4 := hd hb4
    clear hJ1 hg1 hl1 hb4
    go_wp2_with fail
    go_end0
    refine ⟨⟨_, rfl⟩, a', c', HB4.out.set _, JB.same HJ1.out fun g hg => set_heap _ _ _ _ _ (jb_ne HJ1.out hg HB4.out (by decide)), ?_, fun g q => HL1.out g q⟩
    exact ((Tr.drew (fun b => b = b4) w).trans (Tr.grown (O := fun b => b = b4) HG1.out (fun k q => by cases q)) fun x q => .inl q).trans (Tr.set (O := fun b => b = b4) (p := ⟨b4, 0, none⟩) rfl _) fun x q => .inl q
  --END a
/-- what Read leaves -/
def Rd (O : Nat → Prop) (w : World) (d : Nat) (S : Ds) (r : Nat) (l : List Nat) (v : Value) (w' : World) : Prop := DK w' d O S ∧ Tr O w w' ∧ (r = 0 → JB w' 0 v l) ∧ (r ≠ 0 → v = .slice none 0 0) ∧ ∀ g, v.ownBlock = some g → w.heap.size ≤ g
set_option maxRecDepth 100000 in
set_option maxHeartbeats 1000000 in
theorem read_is (w : World) (d : Nat) (O : Nat → Prop) (S : Ds) (s : ByteArray) (at_ n : Int) (h : DK w d O S) (ha : S.acts < 4611686018427387904) :
    Calls Tryz.prog 22 #[.pointer (some ⟨d, 0, none⟩), .string s, .int .i64 at_, .int .i64 n] w fun e w' => ∃ v, e = .returned (.tuple #[v, .int .i64 ((read S s at_ n).1 : Int)]) ∧ Rd O w d (read S s at_ n).2 (read S s at_ n).1 (bytes S s at_ n) v w' := by
  obtain ⟨m, es, h⟩ := h
  obtain ⟨bb, hbb⟩ : ∃ bb, bb = (decide (0 ≤ at_) && decide (0 ≤ n)) := ⟨_, rfl⟩
  obtain ⟨W, hW⟩ : ∃ W, W = (w.alloc (.cells #[.int .i64 at_] 3)).alloc (.cells #[.int .i64 n] 3) := ⟨_, rfl⟩
  have hK : DKm W d m es O S := by rw [hW]; exact (h.alloc _).alloc _
  have htW : Tr O w W := by rw [hW]; exact (Tr.alloc O w _).trans (Tr.alloc O _ _) fun x q => .inl q
  have hb1 : Blk W w.heap.size 3 [.int .i64 at_] := by rw [hW]; exact (Blk.new w _ [.int .i64 at_]).alloc _
  have hb2 : Blk W (w.heap.size + 1) 3 [.int .i64 n] := by
    rw [hW]
    have := Blk.new (w.alloc (.cells #[.int .i64 at_] 3)) 3 [.int .i64 n]
    rwa [alloc_size] at this
  have hWs : W.heap.size = w.heap.size + 2 := by rw [hW, alloc_size, alloc_size]
  obtain ⟨p, hp, hp0⟩ := fans_eq hK s bb
  have HF := hd (find_is W d m es O S s bb hK)
  rw [hp] at HF
  obtain ⟨V, hV⟩ : ∃ V, V = (W.alloc (.cells #[.pointer p] TP)).alloc (.cells #[.slice none 0 0] 31) := ⟨_, rfl⟩
  have hKV : DKm V d m es O S := by rw [hV]; exact (hK.alloc _).alloc _
  have htV : Tr O w V := by rw [hV]; exact (htW.trans (Tr.alloc O W _) fun x q => .inl q).trans (Tr.alloc O _ _) fun x q => .inl q
  have hb3 : Blk V (w.heap.size + 2) TP [.pointer p] := by
    rw [hV]
    have := Blk.new W TP [.pointer p]
    rw [hWs] at this
    exact this.alloc _
  have hb4 : Blk V (w.heap.size + 3) 31 [.slice none 0 0] := by
    rw [hV]
    have := Blk.new (W.alloc (.cells #[.pointer p] TP)) 31 [.slice none 0 0]
    rwa [alloc_size, hWs] at this
  have hb1V : Blk V w.heap.size 3 [.int .i64 at_] := by rw [hV]; exact (hb1.alloc _).alloc _
  have hb2V : Blk V (w.heap.size + 1) 3 [.int .i64 n] := by rw [hV]; exact (hb2.alloc _).alloc _
  have hdl := h.box.lt
  have HA : Hid (Calls Tryz.prog 43 #[.pointer (some ⟨d, 0, none⟩), .int .i64 (look S s bb : Int), .func (.func 44) #[] #[.pointer (some ⟨w.heap.size + 2, 0, none⟩), .pointer (some ⟨w.heap.size, 0, none⟩), .pointer (some ⟨w.heap.size + 1, 0, none⟩), .pointer (some ⟨w.heap.size + 3, 0, none⟩)]] V fun e w' => ∃ r : Nat, e = .returned (.int .i64 (r : Int)) ∧ r = (read S s at_ n).1 ∧ DK w' d O (read S s at_ n).2 ∧ Tr O w w' ∧ (r = 0 → ∃ v, w'.cell? ⟨w.heap.size + 3, 0, none⟩ = some v ∧ JB w' 0 v (bytes S s at_ n) ∧ ∀ g, v.ownBlock = some g → w.heap.size ≤ g)) := by
    unfold read actOf
    rw [← hbb]
    by_cases h0 : look S s bb = 0
    · rw [h0]
      simp only [ne_eq, not_true_eq_false, if_false]
      obtain ⟨e, hfe, rfl, _, hbt, _⟩ := hp0 h0
      rw [hbt] at hbb
      have hpos : 0 ≤ at_ ∧ 0 ≤ n := by simpa using hbb.symm
      obtain ⟨a1, rfl⟩ := Int.eq_ofNat_of_zero_le hpos.1
      obtain ⟨n1, rfl⟩ := Int.eq_ofNat_of_zero_le hpos.2
      have hO : ∀ {a b : World}, Tr (fun b => b = d) a b → Tr O a b := fun q => q.mono fun x e _ => by rw [e]; exact h.own.1
      refine act_is V d m S _ _ hKV.box h.good ha (cf41 _) _ ?_ ?_ ?_
      · intro hb hf w1 ht hb1
        unfold run
        rw [if_neg hb, if_pos hf]
        exact ⟨rfl, ⟨m, es, hKV.turn ht hb1 rfl h.good.tick⟩, htV.trans (hO ht) fun x q => .inl q, fun q => by cases q⟩
      · intro hb hf w1 ht hb1
        unfold run
        rw [if_pos hb, hf]
        exact ⟨rfl, ⟨m, es, hKV.turn ht hb1 rfl (h.good.tick.dn true)⟩, htV.trans (hO ht) fun x q => .inl q, fun q => by cases q⟩
      · intro hc w1 ht hbx
        have hK1 := hKV.turn ht hbx rfl h.good.tick
        obtain ⟨hm, hs⟩ := fnd_mem hfe
        obtain ⟨hfb, hJ⟩ := hK1.file e hm
        have kp : ∀ X T cs, Blk V X T cs → X ≠ d → Blk w1 X T cs := fun X T cs hX hne => (ht.block X hX.lt hne).trans hX
        have hle : e.dat.length ≤ 4194304 := by
          have h1 := h.good.cap
          have h2 := h.good.room
          have h3 : e.dat.length ≤ S.used := by rw [h.good.used, h.fs]; exact get_len_le (f := e.fi) (by rw [fnd_get, hfe]; rfl)
          omega
        refine (read1_is w1 e.blk _ _ _ _ e.val (.slice none 0 0) e.dat _ a1 n1 hfb hJ (kp _ _ _ hb3 (by omega)) (kp _ _ _ hb1V (by omega)) (kp _ _ _ hb2V (by omega)) (kp _ _ _ hb4 (by omega)) hle).mono ?_
        rintro e2 w2 ⟨hv, a', c', hB2, hJ2, ht2, hl2⟩
        have hbx2 : bytes S s (a1 : Int) (n1 : Int) = (e.dat.drop a1).take n1 := by
          unfold bytes
          rw [h.fs, fnd_get, hfe]; rfl
        have hNO : ∀ b, O b → b ≠ w.heap.size + 3 := fun b q z => by have := h.olt b q; omega
        have hK2 := hK1.aside ht2 (fun b q z => hNO b q z)
        have ht12 : Tr O w w2 := (htV.trans (hO ht) fun x q => .inl q).trans ht2 fun x q => .inr (by rw [q]; omega)
        refine ⟨hv, fun hb => ?_, fun hb => ?_⟩
        · rcases hc with ⟨q, _⟩ | ⟨_, hf⟩
          · exact absurd q hb
          · unfold run
            rw [if_neg hb, if_neg hf]
            refine ⟨rfl, ⟨m, es, hK2⟩, ht12, fun _ => ⟨_, hB2.cell 0 _ rfl, by rw [hbx2]; exact hJ2, fun g q => ?_⟩⟩
            have := hl2 g q
            have := ht.size
            have := htV.size
            omega
        · rcases hc with ⟨_, hdn⟩ | ⟨q, _⟩
          · refine ⟨⟨_, hK2.box.cell 4 _ rfl⟩, hK2.box.frozen 4, ?_⟩
            unfold run
            rw [if_pos hb, hdn]
            have hts : Tr (fun b => b = d) w2 (w2.setCell ⟨d, 4, none⟩ (.bool true)) := Tr.set (p := ⟨d, 4, none⟩) (O := fun b => b = d) rfl _
            exact ⟨rfl, ⟨m, es, hK2.turn hts (hK2.box.set _) rfl (hK2.good.dn true)⟩, ht12.trans hts (fun x e => .inl (by rw [e]; exact h.own.1)), fun q => by cases q⟩
          · exact absurd hb q
    · rw [if_pos h0]
      refine (act_ref V _ _ _ h0).mono ?_
      rintro e w' ⟨rfl, rfl⟩
      exact ⟨_, rfl, rfl, ⟨m, es, hKV⟩, htV, fun q => absurd q h0⟩
  have HW := hd hW
  have HV := hd hV
  have hWs' := hd hWs
  have cA : W.cell? ⟨w.heap.size, 0, none⟩ = some (.int .i64 at_) := hb1.cell 0 _ rfl
  have cN : W.cell? ⟨w.heap.size + 1, 0, none⟩ = some (.int .i64 n) := hb2.cell 0 _ rfl
  have HBB := hd hbb
  clear h hW hV hK hKV htW htV hb1 hb2 hb3 hb4 hb1V hb2V hp hp0 hWs hdl hbb
  generalize read S s at_ n = RR at HA ⊢
  obtain ⟨R1, S1⟩ := RR
  by_cases hat : 0 ≤ at_
  · obtain rfl : bb = decide (0 ≤ n) := by rw [HBB.out, decide_eq_true hat, Bool.true_and]
    clear HBB
    generalize look S s (decide (0 ≤ n)) = r at HF HA
    go_enter Tryz.func22, Tryz.ntmps22
    go_wp2_with fail
    rw [← HW.out]
    refine Calls.mono HF.out ?_
    rintro e w1 ⟨rfl, rfl⟩
    go_wp2_with fail
    rw [← HV.out, hWs'.out]
    refine Calls.mono HA.out ?_
    rintro e w2 ⟨r2, rfl, hr2, hK2, ht2, hv2⟩
    subst hr2
    have HK2 := hd hK2
    have HT2 := hd ht2
    by_cases h0 : r2 = 0
    · obtain ⟨v, hc, hJ, hl⟩ := hv2 h0
      have HJ := hd hJ
      have HL := hd hl
      have hc' : w2.cell? ⟨w.heap.size + 2 + 1, 0, none⟩ = some v := hc
      clear hv2 hJ hl hK2 ht2 hc
      obtain ⟨a', c', rfl, _⟩ := HJ.out.shape
      subst h0
      go_wp2_with fail
      go_ret2
      exact ⟨_, rfl, HK2.out, HT2.out, fun _ => HJ.out, fun q => absurd rfl q, HL.out⟩
    · clear hv2 hK2 ht2
      have h0' : ¬ ((r2 : Int) = 0) := by omega
      go_wp2_with fail
      go_ret2
      exact ⟨_, rfl, HK2.out, HT2.out, fun q => absurd q h0, fun _ => rfl, fun g q => by cases q⟩
  · obtain rfl : bb = false := by rw [HBB.out, decide_eq_false hat, Bool.false_and]
    clear HBB
    generalize look S s false = r at HF HA
    go_enter Tryz.func22, Tryz.ntmps22
    go_wp2_with fail
    rw [← HW.out]
    refine Calls.mono HF.out ?_
    rintro e w1 ⟨rfl, rfl⟩
    go_wp2_with fail
    rw [← HV.out, hWs'.out]
    refine Calls.mono HA.out ?_
    rintro e w2 ⟨r2, rfl, hr2, hK2, ht2, hv2⟩
    subst hr2
    have HK2 := hd hK2
    have HT2 := hd ht2
    by_cases h0 : r2 = 0
    · obtain ⟨v, hc, hJ, hl⟩ := hv2 h0
      have HJ := hd hJ
      have HL := hd hl
      have hc' : w2.cell? ⟨w.heap.size + 2 + 1, 0, none⟩ = some v := hc
      clear hv2 hJ hl hK2 ht2 hc
      obtain ⟨a', c', rfl, _⟩ := HJ.out.shape
      subst h0
      go_wp2_with fail
      go_ret2
      exact ⟨_, rfl, HK2.out, HT2.out, fun _ => HJ.out, fun q => absurd rfl q, HL.out⟩
    · clear hv2 hK2 ht2
      have h0' : ¬ ((r2 : Int) = 0) := by omega
      go_wp2_with fail
      go_ret2
      exact ⟨_, rfl, HK2.out, HT2.out, fun q => absurd q h0, fun _ => rfl, fun g q => by cases q⟩
end Dk
end Go.Proofs.YtnakaomgceoobaaGreat
namespace Go.Proofs.YtnakaomgceoobaaGreat
open Go.RowKit Go.Maps
namespace Dk
open Vt
structure DKq (w : World) (d m : Nat) (es : List En) (O : Nat → Prop) (cs : List Value) : Prop where
  box : Blk w d TD cs
  map : MP w m es
  file : ∀ e ∈ es, Blk w e.blk TF [e.val, .int .i64 (e.las : Int)] ∧ JB w 0 e.val e.dat
  apart : es.Pairwise fun a b => a.blk ≠ b.blk ∧ ∀ g, a.val.ownBlock = some g → b.val.ownBlock ≠ some g
  names : es.Pairwise fun a b => a.nm ≠ b.nm
  own : O d ∧ O m ∧ ∀ e ∈ es, O e.blk ∧ ∀ g, e.val.ownBlock = some g → O g
  olt : ∀ b, O b → b < w.heap.size
theorem DKm.q {w : World} {d m : Nat} {es : List En} {O : Nat → Prop} {S : Ds} (h : DKm w d m es O S) : DKq w d m es O (cells S m) := ⟨h.box, h.map, h.file, h.apart, h.names, h.own, h.olt⟩
theorem DKq.m {w : World} {d m : Nat} {es : List En} {O : Nat → Prop} {S : Ds} (h : DKq w d m es O (cells S m)) (hf : S.fs = es.map En.fi) (hg : Good S) : DKm w d m es O S := ⟨hf, h.box, h.map, h.file, h.apart, h.own, h.olt, hg⟩
/-- the disk's own struct alone has turned -/
theorem DKq.turn {w w1 : World} {d m : Nat} {es : List En} {O : Nat → Prop} {cs cs' : List Value} (h : DKq w d m es O cs) (ht : Tr (fun b => b = d) w w1) (hb : Blk w1 d TD cs') : DKq w1 d m es O cs' := by
  have hne : ∀ e ∈ es, e.blk ≠ d := fun e he => blk_ne (h.file e he).1 h.box (by decide)
  have hm : m ≠ d := fun e => h.map.notBlk h.box e.symm
  refine ⟨hb, h.map.same (ht.block m h.map.lt hm), fun e he => ⟨(ht.block _ (h.file e he).1.lt (hne e he)).trans (h.file e he).1, JB.same (h.file e he).2 fun g hg => ?_⟩, h.apart, h.names, h.own, fun b q => Nat.lt_of_lt_of_le (h.olt b q) ht.size⟩
  obtain ⟨cur, hq⟩ := jb_row (h.file e he).2 hg
  exact ht.block g (Array.getElem?_eq_some_iff.1 hq).1 (jb_ne (h.file e he).2 hg h.box (by decide))
theorem DKq.aside {w w' : World} {d m : Nat} {es : List En} {O O2 : Nat → Prop} {cs : List Value} (h : DKq w d m es O cs) (ht : Tr O2 w w') (ha : ∀ b, O b → ¬ O2 b) : DKq w' d m es O cs := by
  have hb : ∀ b, O b → w'.heap[b]? = w.heap[b]? := fun b q => ht.block b (h.olt b q) (ha b q)
  exact ⟨(hb d h.own.1).trans h.box, h.map.same (hb m h.own.2.1), fun e he => ⟨(hb _ (h.own.2.2 e he).1).trans (h.file e he).1, JB.same (h.file e he).2 fun g hg => hb g ((h.own.2.2 e he).2 g hg)⟩, h.apart, h.names, h.own, fun b q => Nat.lt_of_lt_of_le (h.olt b q) ht.size⟩
theorem updE_names {es : List En} {s : ByteArray} {e' : En} (he : e'.nm = s) (h : es.Pairwise fun a b => a.nm ≠ b.nm) : (updE es s e').Pairwise fun a b => a.nm ≠ b.nm := by
  unfold updE
  rw [List.pairwise_map]
  refine h.imp ?_
  intro a b hab
  have ha : (if a.nm = s then e' else a).nm = a.nm := by split; rw [he]; exact (by assumption : a.nm = s).symm; rfl
  have hb : (if b.nm = s then e' else b).nm = b.nm := by split; rw [he]; exact (by assumption : b.nm = s).symm; rfl
  rw [ha, hb]; exact hab
/-- one file is another one, under its name, in its block; all else is as it was -/
theorem DKq.put {w w2 : World} {d m : Nat} {es : List En} {O : Nat → Prop} {cs cs' : List Value} (h : DKq w d m es O cs) {s : ByteArray} {e e' : En} (hf : fnd es s = some e) (hn : e'.nm = e.nm) (hbl : e'.blk = e.blk)
    (hoth : ∀ b, O b → b ≠ e.blk → b ≠ d → e.val.ownBlock ≠ some b → w2.heap[b]? = w.heap[b]?) (hsz : w.heap.size ≤ w2.heap.size)
    (hbox : Blk w2 d TD cs') (hfile : Blk w2 e.blk TF [e'.val, .int .i64 (e'.las : Int)]) (hJ : JB w2 0 e'.val e'.dat)
    (hnew : ∀ g, e'.val.ownBlock = some g → e.val.ownBlock = some g ∨ w.heap.size ≤ g) :
    DKq w2 d m (updE es s e') (fun b => O b ∨ e'.val.ownBlock = some b) cs' := by
  obtain ⟨hm, hs⟩ := fnd_mem hf
  have hnd : ∀ x ∈ es, x.blk ≠ d := by
    rintro x hx rfl
    have h1 : w.heap[x.blk]? = some (.cells cs.toArray TD (0, 0)) := h.box
    have h2 : w.heap[x.blk]? = some (.cells [x.val, .int .i64 (x.las : Int)].toArray TF (0, 0)) := (h.file x hx).1
    rw [h1] at h2
    injection h2 with h2
    injection h2 with _ h3 _
    cases h3
  have hrow : ∀ x ∈ es, ∀ g, x.val.ownBlock = some g → ∃ cur, w.heap[g]? = some (.cells cur 5 (0, 0)) := by
    intro x hx g hg
    obtain ⟨_, _, ⟨q2, _⟩ | ⟨g', cap, cur, q2, _, q4, _⟩⟩ := (h.file x hx).2
    · rw [q2] at hg; cases hg
    · rw [q2] at hg
      have : g' = g := by simpa [Value.ownBlock] using hg
      subst this
      exact ⟨cur, q4⟩
  have hrd : ∀ x ∈ es, ∀ g, x.val.ownBlock = some g → g ≠ d := by
    rintro x hx g hg rfl
    obtain ⟨cur, hq⟩ := hrow x hx g hg
    have h1 : w.heap[g]? = some (.cells cs.toArray TD (0, 0)) := h.box
    rw [h1] at hq
    injection hq with hq
    injection hq with _ hq _
    cases hq
  have hrf : ∀ x ∈ es, ∀ y ∈ es, ∀ g, x.val.ownBlock = some g → g ≠ y.blk := by
    rintro x hx y hy g hg rfl
    obtain ⟨cur, hq⟩ := hrow x hx _ hg
    have h1 : w.heap[y.blk]? = some (.cells [y.val, .int .i64 (y.las : Int)].toArray TF (0, 0)) := (h.file y hy).1
    rw [h1] at hq
    injection hq with hq
    injection hq with _ hq _
    cases hq
  -- two unlike files are apart
  have hap : ∀ x ∈ es, x.nm ≠ s → x.blk ≠ e.blk ∧ ∀ g, x.val.ownBlock = some g → e.val.ownBlock ≠ some g := by
    intro x hx hxs
    have hxe : x ≠ e := fun q => hxs (by rw [q]; exact hs)
    have sym : ∀ {a b : En}, (a.blk ≠ b.blk ∧ ∀ g, a.val.ownBlock = some g → b.val.ownBlock ≠ some g) → (b.blk ≠ a.blk ∧ ∀ g, b.val.ownBlock = some g → a.val.ownBlock ≠ some g) := fun q => ⟨fun z => q.1 z.symm, fun g h1 h2 => q.2 g h2 h1⟩
    exact pw_any sym h.apart hx hm hxe
  have hmn : ∀ x ∈ es, x.blk ≠ m := fun x hx q => h.map.notBlk (h.file x hx).1 q
  have hrm : ∀ x ∈ es, ∀ g, x.val.ownBlock = some g → g ≠ m := by
    rintro x hx g hg rfl
    obtain ⟨cur, hq⟩ := hrow x hx g hg
    obtain ⟨D, ⟨y, c, q6, _⟩, _⟩ := h.map
    rw [hq] at q6
    cases q6
  have hmd : m ≠ d := fun q => h.map.notBlk h.box q.symm
  refine ⟨hbox, (h.map.same (hoth m h.own.2.1 (fun q => hmn e hm q.symm) hmd (fun q => hrm e hm m q rfl))).upd (hn.trans hs) (fun x hx q => by rw [one_nm h.names hf hx q, hbl]), ?_, ?_, updE_names (hn.trans hs) h.names, ⟨.inl h.own.1, .inl h.own.2.1, ?_⟩, ?_⟩
  · intro x hx
    unfold updE at hx
    obtain ⟨x0, hx0, rfl⟩ := List.mem_map.1 hx
    by_cases q : x0.nm = s
    · rw [if_pos q, hbl]; exact ⟨hfile, hJ⟩
    · rw [if_neg q]
      obtain ⟨a1, a2⟩ := hap x0 hx0 q
      refine ⟨(hoth _ (h.own.2.2 x0 hx0).1 a1 (hnd x0 hx0) (fun z => hrf e hm x0 hx0 _ z rfl)).trans (h.file x0 hx0).1, ?_⟩
      obtain ⟨q0, q1, ⟨q2, q3⟩ | ⟨g, cap, cur, q2, q3, q4, q5⟩⟩ := (h.file x0 hx0).2
      · exact ⟨q0, q1, .inl ⟨q2, q3⟩⟩
      · have hgo : x0.val.ownBlock = some g := by rw [q2]; rfl
        exact ⟨q0, q1, .inr ⟨g, cap, cur, q2, q3, (hoth g ((h.own.2.2 x0 hx0).2 g hgo) (hrf x0 hx0 e hm g hgo) (hrd x0 hx0 g hgo) (a2 g hgo)).trans q4, q5⟩⟩
  · unfold updE
    rw [List.pairwise_map]
    refine List.Pairwise.imp_of_mem ?_ (h.apart.and h.names)
    rintro a b ha hb ⟨hab, habn⟩
    by_cases qa : a.nm = s
    · have qb : b.nm ≠ s := fun q => habn (qa.trans q.symm)
      rw [if_pos qa, if_neg qb, hbl]
      obtain ⟨a1, a2⟩ := hap b hb qb
      refine ⟨fun z => a1 z.symm, fun g hg z => ?_⟩
      rcases hnew g hg with z2 | z2
      · exact a2 g z z2
      · obtain ⟨cur, hq⟩ := hrow b hb g z
        have := (Array.getElem?_eq_some_iff.1 hq).1
        omega
    · rw [if_neg qa]
      by_cases qb : b.nm = s
      · rw [if_pos qb, hbl]
        obtain ⟨a1, a2⟩ := hap a ha qa
        refine ⟨a1, fun g hg z => ?_⟩
        rcases hnew g z with z2 | z2
        · exact a2 g hg z2
        · obtain ⟨cur, hq⟩ := hrow a ha g hg
          have := (Array.getElem?_eq_some_iff.1 hq).1
          omega
      · rw [if_neg qb]; exact hab
  · intro x hx
    unfold updE at hx
    obtain ⟨x0, hx0, rfl⟩ := List.mem_map.1 hx
    by_cases q : x0.nm = s
    · rw [if_pos q, hbl]; exact ⟨.inl (h.own.2.2 e hm).1, fun g z => .inr z⟩
    · rw [if_neg q]; exact ⟨.inl (h.own.2.2 x0 hx0).1, fun g z => .inl ((h.own.2.2 x0 hx0).2 g z)⟩
  · intro b q
    rcases q with q | q
    · exact Nat.lt_of_lt_of_le (h.olt b q) hsz
    · obtain ⟨_, _, ⟨q2, _⟩ | ⟨g', cap, cur, q2, _, q4, _⟩⟩ := hJ
      · rw [q2] at q; cases q
      · rw [q2] at q
        have : g' = b := by simpa [Value.ownBlock] using q
        subst this
        exact (Array.getElem?_eq_some_iff.1 q4).1
/-- of the files that have been gone over (those that are no longer to come) a sum -/
def gone (lf : Lit → Bool) (f : En → Nat) (es : List En) : Nat := (es.map fun e => if lf (kl e.nm) then 0 else f e).sum
def strike (lf : Lit → Bool) (k : Lit) : Lit → Bool := fun z => lf z && !z.sameKey k
theorem strike_same {lf : Lit → Bool} {s : ByteArray} (hs : s.size ≤ maxLen) : strike lf (kl s) (kl s) = false := by
  unfold strike
  rw [WideAt.sameKey_self (kl_is hs)]; simp
theorem strike_other {lf : Lit → Bool} {s t : ByteArray} (h : t ≠ s) : strike lf (kl s) (kl t) = lf (kl t) := by
  unfold strike
  rw [Maps.sameKey_ne (fun q => h (kl_inj q))]; simp
theorem gone_step {lf : Lit → Bool} {f : En → Nat} {es : List En} (hn : es.Pairwise fun a b => a.nm ≠ b.nm) {s : ByteArray} {e : En} (hf : fnd es s = some e) (hs : s.size ≤ maxLen) (hl : lf (kl s) = true) : gone (strike lf (kl s)) f es = gone lf f es + f e := by
  induction es with
  | nil => cases hf
  | cons a r ih =>
    rw [List.pairwise_cons] at hn
    unfold fnd at hf
    rw [List.find?_cons] at hf
    unfold gone
    rw [List.map_cons, List.map_cons, List.sum_cons, List.sum_cons]
    by_cases ea : a.nm = s
    · simp [ea] at hf
      subst hf
      rw [ea, strike_same hs, hl]
      have : (r.map fun e => if strike lf (kl s) (kl e.nm) = true then 0 else f e) = r.map fun e => if lf (kl e.nm) = true then 0 else f e := by
        refine List.map_congr_left fun x hx => ?_
        rw [strike_other (fun q => hn.1 x hx (ea.trans q.symm))]
      rw [this]
      simp; omega
    · simp only [ea, decide_false] at hf
      have := ih hn.2 hf
      unfold gone at this
      rw [strike_other ea, this]; omega
theorem gone_none {lf : Lit → Bool} {f : En → Nat} {es : List En} (h : ∀ e ∈ es, lf (kl e.nm) = true) : gone lf f es = 0 := by
  unfold gone
  induction es with
  | nil => rfl
  | cons a r ih =>
    rw [List.map_cons, List.sum_cons, h a (List.mem_cons_self ..), ih fun e he => h e (List.mem_cons_of_mem _ he)]
    rfl
theorem gone_all {lf : Lit → Bool} {f : En → Nat} {es : List En} (h : ∀ k, lf k = false) : gone lf f es = (es.map f).sum := by
  unfold gone
  congr 1
  refine List.map_congr_left fun x _ => ?_
  rw [h]; rfl
theorem gone_le {lf : Lit → Bool} {f g : En → Nat} {es : List En} (h : ∀ e ∈ es, f e ≤ g e) : gone lf f es ≤ (es.map g).sum := by
  unfold gone
  induction es with
  | nil => exact Nat.le_refl _
  | cons a r ih =>
    rw [List.map_cons, List.map_cons, List.sum_cons, List.sum_cons]
    have h1 := h a (List.mem_cons_self ..)
    have h2 := ih fun e he => h e (List.mem_cons_of_mem _ he)
    split <;> omega
/-- the files, some of which have been gone over -/
def crs (keep : Int) (lf : Lit → Bool) (es : List En) : List Fi := es.map fun e => if lf (kl e.nm) then e.fi else crashed keep e.fi
theorem crs_nm (keep : Int) (lf : Lit → Bool) (e : En) : (if lf (kl e.nm) then e.fi else crashed keep e.fi).nm = e.nm := by split <;> rfl
theorem crs_step {keep : Int} {lf : Lit → Bool} {es : List En} {s : ByteArray} (hs : s.size ≤ maxLen) (hl : lf (kl s) = true) : upd (crs keep lf es) s (crashed keep) = crs keep (strike lf (kl s)) es := by
  unfold upd crs
  rw [List.map_map]
  refine List.map_congr_left fun x _ => ?_
  simp only [Function.comp]
  rw [crs_nm]
  by_cases e : x.nm = s
  · rw [if_pos e, e, strike_same hs, hl]; rfl
  · rw [if_neg e, strike_other e]
theorem crs_start {keep : Int} {lf : Lit → Bool} {es : List En} (h : ∀ e ∈ es, lf (kl e.nm) = true) : crs keep lf es = es.map En.fi := by
  unfold crs
  refine List.map_congr_left fun x hx => ?_
  rw [h x hx]; rfl
theorem crs_end {keep : Int} {lf : Lit → Bool} {es : List En} (h : ∀ k, lf k = false) : crs keep lf es = (es.map En.fi).map (crashed keep) := by
  unfold crs
  rw [List.map_map]
  refine List.map_congr_left fun x _ => ?_
  rw [h]; rfl
/-- two lists of the same files, as far as names and blocks go -/
theorem fnd_blk {es es' : List En} (h1 : es'.map En.blk = es.map En.blk) (h2 : es'.map En.nm = es.map En.nm) (s : ByteArray) : (fnd es' s).map En.blk = (fnd es s).map En.blk := by
  induction es generalizing es' with
  | nil => cases es' with
    | nil => rfl
    | cons a r => cases h1
  | cons b q ih => cases es' with
    | nil => cases h1
    | cons a r =>
      rw [List.map_cons, List.map_cons] at h1 h2
      injection h1 with h1a h1b
      injection h2 with h2a h2b
      unfold fnd at ih ⊢
      rw [List.find?_cons, List.find?_cons, h2a]
      by_cases e : b.nm = s
      · simp [e, h1a]
      · simp only [e, decide_false]; exact ih h1b h2b
end Dk
end Go.Proofs.YtnakaomgceoobaaGreat
