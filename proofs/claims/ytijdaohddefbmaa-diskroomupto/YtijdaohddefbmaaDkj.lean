/-
  THE WALK OF started.
-/
import Derived.Test.YtijdaohddefbmaaDkg
import Derived.Test.YtijdaohddefbmaaDki
import Derived.Test.YtijdaohddefbmaaDmu
import Derived.Lib.SlBytesConst
namespace Go.Proofs.Ytijdaohddefbmaa
open Go.RowKit Go.Maps
namespace Dk
open Vt
def bFirst : List Nat := [102, 105, 114, 115, 116]
def bX : List Nat := [120]
/-- the disk on which a script begins -/
def s0 : Ds := ⟨300, 6, 1, false, 0, 0, false, [⟨nmA, bFirst ++ bX, 5⟩]⟩
theorem append_s0 : append (ds1 300 nmA bFirst) nmA bX = (0, s0) := rfl
theorem up_of {B : Nat} {w0 w : World} {d : Nat} {O : Nat → Prop} {S : Ds} {W : World} (hb : Below B w0 w) (hB : B ≤ w.heap.size) (hK : DK W d O S) (ht : Tr (fun _ => False) w W) (hO : ∀ b, O b → w.heap.size ≤ b) : Up B w0 d S W := by
  have h1 := ht.below (B := B) (fun k q => q.elim) hB
  have h2 := ht.size
  exact ⟨⟨O, hK, fun b q => by have := hO b q; omega⟩, ⟨h1.os.trans hb.os, h1.tape.trans hb.tape, h1.output.trans hb.output, Nat.le_trans hb.size h1.size, fun k hk => (h1.block k hk).trans (hb.block k hk)⟩, by omega⟩
theorem Up.alloc {B : Nat} {w : World} {d : Nat} {S : Ds} {W : World} (h : Up B w d S W) (o : Obj) : Up B w d S (W.alloc o) := by
  obtain ⟨O, h1, h2⟩ := h.dk
  refine ⟨⟨O, h1.keep (fun b q => (MapKept.heap_alloc W o).2 b (h1.olt b q)) (by simp), h2⟩, h.below.alloc h.size o, by have := h.size; rw [alloc_size]; omega⟩
theorem below_join {B : Nat} {w0 w w' : World} (h : Below B w0 w) (h' : Below B w0 w') (hs : w.heap.size ≤ w'.heap.size) : Below B w w' :=
  ⟨h'.os.trans h.os.symm, h'.tape.trans h.tape.symm, h'.output.trans h.output.symm, hs, fun k hk => (h'.block k hk).trans (h.block k hk).symm⟩
theorem lit_marked (w : World) (xs : Array Value) (l : List Nat) (n : Nat) (mk : Nat × Nat) (hn : n = l.length) (hx : xs = (l.map fun x => Value.int .u8 ((x : Nat) : Int)).toArray) (hb : ∀ x ∈ l, x < 256) (hm : l.length ≤ maxLen) : IsB (w.alloc (.cells xs 5 mk)) (.slice (some ⟨w.heap.size, 0, none⟩) n n) l := by
  subst hn hx
  refine ⟨hb, hm, .inr ⟨w.heap.size, 0, l.length, rfl, Nat.le_refl _, hm, by rw [alloc_size]; omega, fun i hi => ?_⟩⟩
  have h1 : (w.alloc (.cells (l.map fun x => Value.int .u8 ((x : Nat) : Int)).toArray 5 mk)).heap[w.heap.size]? = some (.cells (l.map fun x => Value.int .u8 ((x : Nat) : Int)).toArray 5 mk) := (MapKept.heap_alloc w _).1
  simp only [World.cell?, h1, Nat.zero_add]
  simp [hi, List.getD_eq_getElem?_getD]
set_option maxRecDepth 100000 in
set_option maxHeartbeats 2000000 in
theorem started_is (B : Nat) (w0 w : World) (v : Value) (l : List Op7) (hb : Below B w0 w) (hB : B ≤ w.heap.size) (hv : Scr B w v l) (ha : l.length < 4000000000000000000) :
    Calls Try.prog 6 #[v] w fun e w' => ∃ d, e = .returned (.pointer (some ⟨d, 0, none⟩)) ∧ Up B w0 d (actsS s0 l) w' := by
  obtain ⟨av, cv, rfl⟩ := hv.shape
  have kc := fun (w : World) (C : Array Value) (n c : Nat) => Lib.run_convert_bytes_const (P := Try.prog) w 29 5 C n c Try.underlying29 Try.underlying5
  obtain ⟨w1, hw1⟩ : ∃ w1, w1 = w.alloc (.cells #[.int .u8 102, .int .u8 105, .int .u8 114, .int .u8 115, .int .u8 116] 5 (5, 6)) := ⟨_, rfl⟩
  obtain ⟨w2, hw2⟩ : ∃ w2, w2 = w1.alloc (.cells #[.string ⟨#[97]⟩, .slice (some ⟨w.heap.size, 0, none⟩) 5 5] TFi) := ⟨_, rfl⟩
  have hI2 : IsB w2 (.slice (some ⟨w.heap.size, 0, none⟩) 5 5) bFirst := by
    rw [hw2]
    refine IsK.below (w := w1) ?_ ((Below.refl _ w1).alloc (Nat.le_refl _) _)
    rw [hw1]
    exact lit_marked w _ bFirst 5 (5, 6) rfl rfl (by decide) (by decide)
  have hF2 : Blk w2 w1.heap.size TFi [.string nmA, .slice (some ⟨w.heap.size, 0, none⟩) 5 5] := by rw [hw2]; exact Blk.new w1 TFi [.string nmA, .slice (some ⟨w.heap.size, 0, none⟩) 5 5]
  have HN := hd (new1_is w2 300 w1.heap.size nmA (some ⟨w.heap.size, 0, none⟩) 5 bFirst hF2 hI2 rfl (by decide) (by decide))
  have hs1 : w1.heap.size = w.heap.size + 1 := by rw [hw1, alloc_size]
  rw [hs1] at HN
  have hs2 : w2.heap.size = w.heap.size + 2 := by rw [hw2, alloc_size, hs1]
  have hb2 : Below B w0 w2 := by rw [hw2, hw1]; exact (hb.alloc hB _).alloc (by rw [alloc_size]; omega) _
  have HB2 := hd hb2
  have HV := hd hv
  have HW1 := hd hw1
  have HW2 := hd hw2
  have HS1 := hd hs1
  have HS2 := hd hs2
  have HB0 := hd hb
  clear hI2 hF2 hb hv hw1 hw2 hs1 hs2 hb2
  go_enter Try.func6, Try.ntmps6
  go_wp2_with fail
  rw [← HW1.out, ← HW2.out]
  refine Calls.mono HN.out ?_
  rintro e w3 ⟨d, O, rfl, hK3, ht3, hO3⟩
  obtain ⟨w4, hw4⟩ : ∃ w4, w4 = w3.alloc (.cells #[.int .u8 120] 5 (1, 2)) := ⟨_, rfl⟩
  have hU3 : Up B w0 d (ds1 300 nmA bFirst) w3 := up_of HB2.out (by rw [HS2.out]; omega) hK3 ht3 hO3
  have hU4 : Up B w0 d (ds1 300 nmA bFirst) w4 := by rw [hw4]; exact hU3.alloc _
  have hI4 : IsB w4 (.slice (some ⟨w3.heap.size, 0, none⟩) 1 1) bX := by rw [hw4]; exact lit_marked w3 _ bX 1 (1, 2) rfl rfl (by decide) (by decide)
  have hd3 : w3.heap.size ≠ d := by obtain ⟨m, es, hk⟩ := hK3; have := hk.box.lt; omega
  obtain ⟨O4, hK4, hO4⟩ := hU4.dk
  have HA := hd (append_is w4 d O4 _ nmA _ bX hK4 (by decide) hI4 (fun _ b o n c q => by injection q with q; injection q with q; injection q with q; rw [← q]; exact hd3))
  rw [append_s0] at HA
  have HU4 := hd hU4
  have HW4 := hd hw4
  have hsz3 : w.heap.size ≤ w3.heap.size := by have := ht3.size; have := HS2.out; omega
  have hsz4 : w.heap.size ≤ w4.heap.size := by rw [hw4, alloc_size]; omega
  clear hK3 ht3 hO3 hU3 hU4 hI4 hK4 HN hw4
  go_wp2_with fail
  rw [← HW4.out]
  refine Calls.mono HA.out ?_
  rintro e w5 ⟨rfl, hx5⟩
  have hs5 : w4.heap.size ≤ w5.heap.size := hx5.elim fun _ q => q.2.1.size
  have hU5 : Up B w0 d s0 w5 := by
    have hb4 := (hx5.elim fun _ q => q.2.1).below hO4 HU4.out.size
    obtain ⟨O', m1, m2, m3⟩ := hx5
    have hs := HU4.out.size
    exact ⟨⟨O', m1, fun b q => (m3 b q).elim (hO4 b) (fun z => by omega)⟩, ⟨hb4.os.trans HU4.out.below.os, hb4.tape.trans HU4.out.below.tape, hb4.output.trans HU4.out.below.output, Nat.le_trans HU4.out.below.size hb4.size, fun j hj => (hb4.block j hj).trans (HU4.out.below.block j hj)⟩, by omega⟩
  have hV5 : Scr B w5 (.slice av l.length cv) l := HV.out.keep (below_join HB0.out hU5.below (by omega))
  have HACTS := hd (lacts_is B w0 w5 d s0 _ l hU5 hV5 (by show 1 + l.length < _; omega))
  obtain ⟨O5, hK5, _⟩ := hU5.dk
  have HUS := hd (used_is w5 d O5 s0 hK5)
  rw [show s0.used = 6 from rfl] at HUS
  clear hx5 hs5 hU5 hV5 hK5 HA HU4
  go_wp2_with fail
  refine Calls.mono HUS.out ?_
  rintro e w6 ⟨rfl, rfl⟩
  go_wp2_with fail
  refine Calls.mono HACTS.out ?_
  rintro e w7 ⟨⟨u7, rfl⟩, hU7⟩
  have HU7 := hd hU7
  clear hU7 HACTS
  go_wp2_with fail
  go_ret
  exact ⟨_, rfl, HU7.out⟩
end Dk
end Go.Proofs.Ytijdaohddefbmaa
