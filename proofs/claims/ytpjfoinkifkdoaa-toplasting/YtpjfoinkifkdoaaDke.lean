/-
  THE WALKS OF Remove and Truncate.
-/
import Derived.Test.YtpjfoinkifkdoaaDkd
namespace Go.Proofs.Ytpjfoinkifkdoaa
open Go.RowKit Go.Maps
namespace Dk
open Vt
theorem cf52 (caps : Array Value) (w : World) : (callFunc 36 caps).run Try.prog w = .ok (.enter 36 caps) w := by kernel_rfl
theorem DKm.len_le {w : World} {d m : Nat} {es : List En} {O : Nat → Prop} {S : Ds} (h : DKm w d m es O S) {s : ByteArray} {e : En} (hf : fnd es s = some e) : e.dat.length ≤ S.used := by
  rw [h.good.used, h.fs]; exact get_len_le (f := e.fi) (by rw [fnd_get, hf]; rfl)
set_option maxRecDepth 100000 in
theorem remove1_is (w : World) (d m : Nat) (es : List En) (O : Nat → Prop) (S : Ds) (s : ByteArray) (b1 b2 : Nat) (h : DKm w d m es O S) (h1 : Blk w b1 23 [.pointer (some ⟨d, 0, none⟩)]) (h2 : Blk w b2 TS [.string s]) (hs : s.size ≤ maxLen) :
    Calls Try.prog 36 #[.pointer (some ⟨b1, 0, none⟩), .pointer (some ⟨b2, 0, none⟩)] w fun e w2 => (∃ v, e = .returned v) ∧ Nx O w d (gRemove s S) w2 := by
  have hcap := h.good.cap
  have hroom := h.good.room
  have HD := hd (drop_is w d m es O S s h.q hs (by omega) (fun e hf => h.len_le hf))
  have c1 := h1.cell 0 _ rfl
  have c2 := h2.cell 0 _ rfl
  have H := hd h
  clear h h1 h2
  go_enter Try.func36, Try.ntmps36
  go_wp2_with fail
  refine Calls.mono HD.out ?_
  rintro e w1 ⟨⟨v, rfl⟩, hq, ht0⟩
  have ht : Tr O w w1 := ht0.mono fun x q _ => q.elim (fun q => by rw [q]; exact H.out.own.1) (fun q => by rw [q]; exact H.out.own.2.1)
  clear ht0
  have HN : Hid (Nx O w d (gRemove s S) w1) := by
    refine ⟨O, ⟨m, cutE es s, DKq.m (S := gRemove s S) ?_ ?_ H.out.good.remove⟩, ht, fun b q => .inl q⟩
    · have e1 : (gRemove s S).used = dropU es s S.used := by
        show S.used - _ = _
        unfold dropU
        rw [H.out.fs, fnd_get]
        cases fnd es s <;> rfl
      have e2 : cells (gRemove s S) m = cells { S with used := dropU es s S.used } m := by
        unfold cells
        rw [e1]
        rfl
      rw [e2]
      exact hq
    · show del S.fs s = _
      rw [H.out.fs, cutE_fi]
  clear hq ht
  go_wp2_with fail
  go_end0
  exact ⟨⟨_, rfl⟩, HN.out⟩
set_option maxRecDepth 100000 in
set_option maxHeartbeats 1000000 in
theorem remove_is (w : World) (d : Nat) (O : Nat → Prop) (S : Ds) (s : ByteArray) (h : DK w d O S) (ha : S.acts < 4611686018427387904) :
    Calls Try.prog 21 #[.pointer (some ⟨d, 0, none⟩), .string s] w fun e w' => e = .returned (.int .i64 ((remove S s).1 : Int)) ∧ Nx O w d (remove S s).2 w' := by
  obtain ⟨m, es, h⟩ := h
  obtain ⟨W, hW⟩ : ∃ W, W = (w.alloc (.cells #[.pointer (some ⟨d, 0, none⟩)] 23)).alloc (.cells #[.string s] TS) := ⟨_, rfl⟩
  have hK : DKm W d m es O S := by rw [hW]; exact (h.alloc _).alloc _
  have htW : Tr O w W := by rw [hW]; exact (Tr.alloc O w _).trans (Tr.alloc O _ _) fun x q => .inl q
  have hb1 : Blk W w.heap.size 23 [.pointer (some ⟨d, 0, none⟩)] := by rw [hW]; exact (Blk.new w _ [.pointer (some ⟨d, 0, none⟩)]).alloc _
  have hb2 : Blk W (w.heap.size + 1) TS [.string s] := by
    rw [hW]
    have := Blk.new (w.alloc (.cells #[.pointer (some ⟨d, 0, none⟩)] 23)) TS [.string s]
    rwa [alloc_size] at this
  obtain ⟨p, hp, hp0⟩ := fans_eq hK s true
  have HF := hd (find_is W d m es O S s true hK)
  rw [hp] at HF
  have hdl := h.box.lt
  have HA : Hid (Calls Try.prog 30 #[.pointer (some ⟨d, 0, none⟩), .int .i64 (look S s true : Int), .func (.func 36) #[] #[.pointer (some ⟨w.heap.size, 0, none⟩), .pointer (some ⟨w.heap.size + 1, 0, none⟩)]] W fun e w' => e = .returned (.int .i64 ((remove S s).1 : Int)) ∧ Nx O w d (remove S s).2 w') := by
    refine (act_nx _ d m es O S _ _ (look S s true) (gRemove s) hK ha (cf52 _) ?_).mono ?_
    · intro h0 w1 ht h1
      obtain ⟨e, hfe, rfl, hnm, _⟩ := hp0 h0
      exact remove1_is w1 d m es O (tick S) s _ _ h1 ((ht.block _ hb1.lt (by omega)).trans hb1) ((ht.block _ hb2.lt (by omega)).trans hb2) (isNm_len hnm)
    · rintro e w' ⟨rfl, hn⟩
      exact ⟨rfl, hn.after htW⟩
  have c0 := hb1.cell 0 _ rfl
  have c1 := hb2.cell 0 _ rfl
  have HW := hd hW
  clear h hK htW hb1 hb2 hp hp0 hdl hW
  rw [HW.out] at c0 c1
  generalize look S s true = r at *
  go_enter Try.func21, Try.ntmps21
  go_wp2_with fail
  rw [← HW.out]
  refine Calls.mono HF.out ?_
  rintro e w1 ⟨rfl, rfl⟩
  rw [← HW.out] at c0 c1
  go_wp2_with fail
  refine Calls.mono HA.out ?_
  rintro e w2 ⟨rfl, hn⟩
  have HN := hd hn
  clear hn HA
  go_wp2_with fail
  go_ret
  exact ⟨rfl, HN.out⟩
theorem rTrunc_no {S : Ds} {s : ByteArray} {n : Int} (h : look S s (decide (0 ≤ n)) ≠ 0) : rTrunc S s n = look S s (decide (0 ≤ n)) := by unfold rTrunc; rw [if_pos h]
theorem rTrunc_in {S : Ds} {s : ByteArray} {n : Int} (h : look S s (decide (0 ≤ n)) = 0) : rTrunc S s n = if ((((get S.fs s).map fun f => f.dat.length).getD 0 : Nat) : Int) < n then 70 else 0 := by unfold rTrunc; rw [if_neg (by omega)]
end Dk
end Go.Proofs.Ytpjfoinkifkdoaa
