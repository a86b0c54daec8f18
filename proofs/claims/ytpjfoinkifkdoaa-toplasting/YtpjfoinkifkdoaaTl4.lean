/-
  THE WALK OF TopLasting.
-/
import Derived.Test.YtpjfoinkifkdoaaTl2
import Derived.Test.YtpjfoinkifkdoaaDkg
import Derived.Test.YtpjfoinkifkdoaaDkb
import Derived.Test.YtpjfoinkifkdoaaDnp
import Derived.Test.YtpjfoinkifkdoaaTl5
import Derived.Test.YtpjfoinkifkdoaaDns
import Derived.Lib.SlBytesConst
namespace Go.Proofs.Ytpjfoinkifkdoaa
open Go.RowKit Go.Maps Go.Sort
namespace Tl
open Vt Dk
attribute [local go_sem ↓] append_hid
attribute [local go_sem ↓] slice_hid
structure Rw4 where
  k : Int
  y : Int
  v : Int
  n : Int
def wcl (x : Rw4) : List Value := [.int .i64 x.k, .int .i64 x.y, .int .i64 x.v, .int .i64 x.n]
def Rw4.Ok (x : Rw4) : Prop := (Lit.int .i64 x.k).wf = true ∧ (Lit.int .i64 x.y).wf = true ∧ (Lit.int .i64 x.v).wf = true ∧ (Lit.int .i64 x.n).wf = true
/-- a slice of raw steps that came in -/
def IsRw (w : World) (v : Value) (l : List Rw4) : Prop :=
  (∀ x ∈ l, x.Ok) ∧ ((l = [] ∧ ∃ a c, v = .slice a 0 c) ∨ ∃ b off c, v = .slice (some ⟨b, off, none⟩) l.length c ∧ l.length ≤ c ∧ c ≤ maxLen ∧ b < w.heap.size ∧ ∀ i x, l[i]? = some x → ∀ j u, (wcl x)[j]? = some u → w.cell? ⟨b, off + i * 4 + j, none⟩ = some u)
theorem IsRw.shape {w : World} {v : Value} {l : List Rw4} (h : IsRw w v l) : ∃ a c, v = .slice a l.length c := by
  rcases h.2 with ⟨rfl, a, c, h⟩ | ⟨b, off, c, h, _⟩
  · exact ⟨a, c, h⟩
  · exact ⟨_, c, h⟩
theorem IsRw.below {w w' : World} {v : Value} {rs : List Rw4} (h : IsRw w v rs) (hb : Below w.heap.size w w') : IsRw w' v rs := by
  refine ⟨h.1, ?_⟩
  rcases h.2 with h | ⟨b, off, c, h1, h2, h3, h4, h5⟩
  · exact .inl h
  · exact .inr ⟨b, off, c, h1, h2, h3, Nat.lt_of_lt_of_le h4 hb.size, fun i r hr j u hu => (World.cell?_of_block (hb.block b h4)).trans (h5 i r hr j u hu)⟩
theorem lit_marked (w : World) (xs : Array Value) (l : List Nat) (n : Nat) (mk : Nat × Nat) (hn : n = l.length) (hx : xs = (l.map fun x => Value.int .u8 ((x : Nat) : Int)).toArray) (hb : ∀ x ∈ l, x < 256) (hm : l.length ≤ maxLen) : IsB (w.alloc (.cells xs 5 mk)) (.slice (some ⟨w.heap.size, 0, none⟩) n n) l := by
  subst hn hx
  refine ⟨hb, hm, .inr ⟨w.heap.size, 0, l.length, rfl, Nat.le_refl _, hm, by simp, fun i hi => ?_⟩⟩
  have h1 : (w.alloc (.cells (l.map fun x => Value.int .u8 ((x : Nat) : Int)).toArray 5 mk)).heap[w.heap.size]? = some (.cells (l.map fun x => Value.int .u8 ((x : Nat) : Int)).toArray 5 mk) := (MapKept.heap_alloc w _).1
  simp only [World.cell?, h1, Nat.zero_add]
  simp [hi, List.getD_eq_getElem?_getD]
def bKept : List Nat := [107, 101, 112, 116]
def nA : ByteArray := ⟨#[97]⟩
theorem start_dq {B : Nat} {w w3 : World} {d : Nat} {O : Nat → Prop} {S : Ds} (hK : DK w3 d O S) (hO : ∀ b, O b → B ≤ b) (hb : Below B w w3) (hB : B ≤ w3.heap.size) {W5 : World} (hW : W5 = (w3.alloc (.cells #[.int .u8 107, .int .u8 101, .int .u8 112, .int .u8 116] 5 (4, 5))).alloc (.cells #[.string nA, .slice (some ⟨w3.heap.size, 0, none⟩) 4 4, .int .i64 4] TK)) :
    Dq B w d S (.slice (some ⟨w3.heap.size + 1, 0, none⟩) 1 1) [(⟨nA, bKept, 4⟩, some ⟨w3.heap.size, 0, none⟩, 4)] [(⟨nA, bKept, 4⟩, some ⟨w3.heap.size, 0, none⟩, 4)] W5 := by
  have hb5 : Below w3.heap.size w3 W5 := by rw [hW]; exact ((Below.refl _ w3).alloc (Nat.le_refl _) _).alloc (by simp) _
  have hs5 : W5.heap.size = w3.heap.size + 2 := by rw [hW]; simp
  have hI : IsB W5 (.slice (some ⟨w3.heap.size, 0, none⟩) 4 4) bKept := by
    rw [hW]
    refine IsK.below (w := w3.alloc (.cells #[.int .u8 107, .int .u8 101, .int .u8 112, .int .u8 116] 5 (4, 5))) ?_ ((Below.refl _ _).alloc (Nat.le_refl _) _)
    exact lit_marked w3 _ bKept 4 (4, 5) rfl rfl (by decide) (by decide)
  refine ⟨⟨O, hK.keep (fun b q => hb5.block b (hK.olt b q)) hb5.size, hO, fun g hg q => ?_, fun c hc => ?_⟩, ⟨fun r hr => ?_, ?_⟩, bel_tr hb (bel_le hb5 hB), by omega⟩
  · obtain rfl : w3.heap.size + 1 = g := by simpa [Value.ownBlock] using hg
    have := hK.olt _ q
    omega
  · rw [List.mem_singleton.1 hc]
    refine ⟨hI, fun _ b off q => ?_⟩
    injection q with q
    injection q with q
    subst q
    refine ⟨fun e => by have := hK.olt _ e; omega, fun e => ?_⟩
    simp [Value.ownBlock] at e
  · rw [List.mem_singleton.1 hr]
    exact ⟨rfl, dcl_one⟩
  · refine ⟨rfl, .inr ⟨w3.heap.size + 1, 1, #[.string nA, .slice (some ⟨w3.heap.size, 0, none⟩) 4 4, .int .i64 4], rfl, by omega, ?_, Nat.le_refl _, by decide, rfl, rfl⟩⟩
    rw [hW]
    have := (MapKept.heap_alloc (w3.alloc (.cells #[.int .u8 107, .int .u8 101, .int .u8 112, .int .u8 116] 5 (4, 5))) (.cells #[.string nA, .slice (some ⟨w3.heap.size, 0, none⟩) 4 4, .int .i64 4] TK)).1
    simpa using this
theorem isB_cap {w : World} {a : Option Addr} {n c : Nat} {l : List Nat} (h : IsB w (.slice a n c) l) : l.length ≤ c := by
  obtain ⟨_, _, ⟨q1, a', c', q2⟩ | ⟨b2, o2, c2, q2, q3, _⟩⟩ := h
  · rw [q1]; exact Nat.zero_le _
  · injection q2 with _ _ q2
    rw [q2]; exact q3
theorem FLs.drewN {w : World} {lo : Nat} {v : Value} {l : List (ByteArray × List Nat)} (h : FLs w lo v l) (n : Nat) : FLs (w.drewN n) lo v l := h.same fun _ _ _ => rfl
set_option maxRecDepth 100000 in
set_option maxHeartbeats 4000000 in
theorem lasting_walk (v1 : Value) (l : List Rw4) (keep : Int) (w : World) (h1 : IsRw w v1 l) (hk : (Lit.int .i64 keep).wf = true) :
    Calls Try.prog 3 #[v1, .int .i64 keep] w fun e w' => e = .returned (.bool true) ∧ Below w.heap.size w w' := by
  have kc := fun (w : World) (C : Array Value) (n c : Nat) => Lib.run_convert_bytes_const (P := Try.prog) w 27 5 C n c Try.underlying27 Try.underlying5
  have HL := hd h1
  have HPK : Hid (∀ W, Calls Try.prog 6 #[.int .i64 keep, .int .i64 20] W fun e w' => e = .returned (.int .i64 ((pk keep 20 : Nat) : Int)) ∧ w' = W) := fun W => pick_is keep 20 W (bounds_i64 hk).1 (bounds_i64 hk).2 (by omega) (by omega)
  have hkp := pk_lt keep (n := 20) (by omega)
  generalize pk keep 20 = kp at *
  obtain ⟨a1, c1, rfl⟩ := h1.shape
  clear h1
  obtain ⟨w1, hw1⟩ : ∃ w1, w1 = w.alloc (.cells #[.int .u8 107, .int .u8 101, .int .u8 112, .int .u8 116] 5 (4, 5)) := ⟨_, rfl⟩
  obtain ⟨w2, hw2⟩ : ∃ w2, w2 = w1.alloc (.cells #[.string ⟨#[97]⟩, .slice (some ⟨w.heap.size, 0, none⟩) 4 4] TFi) := ⟨_, rfl⟩
  have hI2 : IsB w2 (.slice (some ⟨w.heap.size, 0, none⟩) 4 4) bKept := by
    rw [hw2]
    refine IsK.below (w := w1) ?_ ((Below.refl _ w1).alloc (Nat.le_refl _) _)
    rw [hw1]
    exact lit_marked w _ bKept 4 (4, 5) rfl rfl (by decide) (by decide)
  have hF2 : Blk w2 w1.heap.size TFi [.string nA, .slice (some ⟨w.heap.size, 0, none⟩) 4 4] := by rw [hw2]; exact Blk.new w1 TFi [.string nA, .slice (some ⟨w.heap.size, 0, none⟩) 4 4]
  have HN : Hid (Calls Try.prog 4 #[.int .i64 1048576, .slice (some ⟨w1.heap.size, 0, none⟩) 1 1] w2 fun e w' => ∃ d O, e = .returned (.tuple #[.pointer (some ⟨d, 0, none⟩), .int .i64 0]) ∧ DK w' d O (ds1 1048576 nA bKept) ∧ Tr (fun _ => False) w2 w' ∧ ∀ b, O b → w2.heap.size ≤ b) := new1_is w2 1048576 w1.heap.size nA (some ⟨w.heap.size, 0, none⟩) 4 bKept hF2 hI2 rfl (by decide) (by decide)
  have hs1 : w1.heap.size = w.heap.size + 1 := by rw [hw1]; simp
  rw [hs1] at HN
  have hs2 : w2.heap.size = w.heap.size + 2 := by rw [hw2]; simp [hs1]
  have hb2 : Below w.heap.size w w2 := by rw [hw2, hw1]; exact ((Below.refl _ w).alloc (Nat.le_refl _) _).alloc (by simp) _
  have HB2 := hd hb2; have HW1 := hd hw1; have HW2 := hd hw2; have HS2 := hd hs2
  clear hI2 hF2 hw1 hw2 hs1 hs2 hb2
  go_enter Try.func3, Try.ntmps3
  go_wp2_with fail
  rw [← HW1.out, ← HW2.out]
  refine Calls.mono HN.out ?_
  rintro e w3 ⟨d, O, rfl, hK3, ht3, hO3⟩
  obtain ⟨W5, hW5⟩ : ∃ W5, W5 = (w3.alloc (.cells #[.int .u8 107, .int .u8 101, .int .u8 112, .int .u8 116] 5 (4, 5))).alloc (.cells #[.string nA, .slice (some ⟨w3.heap.size, 0, none⟩) 4 4, .int .i64 4] TK) := ⟨_, rfl⟩
  have hB3 : w.heap.size ≤ w3.heap.size := by have := ht3.size; have := HS2.out; omega
  have HQ5 := hd (start_dq (B := w.heap.size) (w := w) hK3 (fun b q => by have := hO3 b q; have := HS2.out; omega) (bel_tr HB2.out (ht3.below (fun _ q => q.elim) (by have := HS2.out; omega))) hB3 hW5)
  have HW5 : Hid (W5 = (w3.alloc (.cells #[.int .u8 107, .int .u8 101, .int .u8 112, .int .u8 116] 5 (4, 5))).alloc (.cells #[.string ⟨#[97]⟩, .slice (some ⟨w3.heap.size, 0, none⟩) 4 4, .int .i64 4] TK)) := hW5
  clear hK3 ht3 hO3 hW5 HN hB3
  go_wp2_with fail
  rw [← HW5.out]
  go_loopw [7, 8] (fun va i wr => ∃ (k : Nat) (cs : List De) (S : Ds), k ≤ l.length ∧ k ≤ 200 ∧ i = .int .i64 (k : Int) ∧ Dq w.heap.size w d S va cs cs wr ∧ (cs.map Prod.fst).Perm S.fs ∧ Ok S ∧ S.cap = 1048576 ∧ S.acts ≤ k ∧ S.used ≤ 4 + 500 * k) (fun _ i _ => 200 - (intOf i).toNat)
  case atStart => exact ⟨0, _, _, by omega, by omega, rfl, HQ5.out, List.Perm.refl _, ⟨rfl, rfl, rfl⟩, rfl, Nat.le_refl _, by decide⟩
  case round =>
    obtain ⟨k, cs, S, hk1, hk2, rfl, hQ, hP, hO, hcap, hac, hus⟩ := hrel
    have HQ := hd hQ; have HP := hd hP; have HO := hd hO; have HCP := hd hcap
    obtain ⟨av, cv, hav, _⟩ := hQ.row.shape
    rw [List.length_map] at hav
    subst hav
    clear hQ hP hO hcap HQ5
    by_cases hgo : k < l.length ∧ k < 200
    · obtain ⟨hlt, h200⟩ := hgo
      obtain ⟨x, hx⟩ : ∃ x, l[k]? = some x := ⟨_, List.getElem?_eq_getElem hlt⟩
      obtain ⟨b1, b2, b3, b4⟩ := HL.out.1 x (List.mem_of_getElem? hx)
      rcases (HL.out.below HQ.out.below).2 with ⟨rfl, _⟩ | ⟨b, off, c, he, hlc, hcm, hbl, hop⟩
      · simp at hlt
      injection he with he1 he2 he3
      subst he1 he3
      have d0 : wr.cell? ⟨b, off + k * 4, none⟩ = some (.int .i64 x.k) := hop k x hx 0 _ rfl
      have d1 := hop k x hx 1 _ rfl
      have d2 := hop k x hx 2 _ rfl
      have d3 := hop k x hx 3 _ rfl
      have HMV := hd (move_is w.heap.size w wr d S (.slice av cs.length cv) cs x.k x.y x.v x.n HQ.out HP.out HO.out (by rw [HCP.out]; omega) (by omega) b1 b2 b3 b4)
      clear hop hx b1 b2 b3 b4
      go_wp2_with fail
      refine Calls.mono HMV.out ?_
      rintro e w6 ⟨u6, S', cs', rfl, hQ6, hP6, hO6, hc6, ha6, hu6⟩
      have HREL : Hid (Dq w.heap.size w d S' u6 cs' cs' w6 ∧ (cs'.map Prod.fst).Perm S'.fs ∧ Ok S' ∧ S'.cap = 1048576 ∧ S'.acts ≤ k + 1 ∧ S'.used ≤ 4 + 500 * (k + 1)) := ⟨hQ6, hP6, hO6, hc6.trans HCP.out, by omega, by omega⟩
      clear hQ6 hP6 hO6 hc6 ha6 hu6 HMV
      go_wp2_with fail
      go_roundw
      case rel => exact ⟨k + 1, _, _, by omega, by omega, by go_num, HREL.out⟩
      case measure => simp [intOf]; omega
    · by_cases hlt : k < l.length
      · have h200 : ¬ k < 200 := fun q => hgo ⟨hlt, q⟩
        clear hgo
        go_wp2_with fail
        refine Calls.mono (HPK.out wr) ?_
        rintro e wq ⟨rfl, hwq⟩
        rw [hwq]
        clear hwq
        have HCR := hd (HQ.out.act fun O hK _ _ => crash_is wr d O S (kp : Int) hK)
        go_wp2_with fail
        refine Calls.mono HCR.out ?_
        rintro e w6 ⟨rfl, hQ6⟩
        obtain ⟨S2, hS2⟩ : ∃ S2, S2 = crash (kp : Int) S := ⟨_, rfl⟩
        have hG := HQ.out.good
        rw [← hS2] at hQ6
        have HG := hd hG; have HS2 := hd hS2
        have hac2 : S2.acts ≤ 200 := by rw [hS2]; show S.acts ≤ 200; omega
        have HFI : Hid (Calls Try.prog 8 #[.pointer (some ⟨d, 0, none⟩)] w6 fun x w2 => ∃ v, x = .returned v ∧ FLs w2 w6.heap.size v (Dk.told S2 true) ∧ Below w6.heap.size w6 w2) := by
          obtain ⟨O6, hK6, _⟩ := hQ6.ex
          exact files_is w6 d O6 S2 hK6 (by omega)
        have HQ6 := hd hQ6
        clear hQ6 HCR hG hS2 HQ
        go_wp2_with fail
        refine Calls.mono HFI.out ?_
        rintro e w7 ⟨v7, rfl, hF7, hb7⟩
        have hQ7 := HQ6.out.bel hb7
        obtain ⟨a7, c7, hv7, hc7⟩ := hF7.shape
        subst hv7
        have htl : (Dk.told S2 true).length = cs.length := by
          have h1 := HP.out.length_eq
          rw [List.length_map] at h1
          rw [told_len, HS2.out, h1]
          show (S.fs.map _).length = _
          rw [List.length_map]
        have hcl : cs.length ≤ 400 := by
          have h1 := HP.out.length_eq
          rw [List.length_map] at h1
          have := HG.out.cnt
          omega
        have HDN : Hid (Calls Try.prog 9 #[.pointer (some ⟨d, 0, none⟩)] w7 fun r w' => r = .returned (.bool false) ∧ w' = w7) := by
          obtain ⟨O7, hK7, _⟩ := hQ7.ex
          have := down_is w7 d O7 S2 hK7
          rw [show S2.down = false by rw [HS2.out]; rfl] at this
          exact this
        have HUS : Hid (Calls Try.prog 12 #[.pointer (some ⟨d, 0, none⟩)] w7 fun r w' => r = .returned (.int .i64 ((sumL (Dk.told S2 true) : Nat) : Int)) ∧ w' = w7) := by
          obtain ⟨O7, hK7, _⟩ := hQ7.ex
          rw [told_sum hK7.good]
          exact used_is w7 d O7 S2 hK7
        have HG2 := hd hQ7.good
        have hsm : sumL (Dk.told S2 true) ≤ 4194304 := by
          have h1 := told_sum HG2.out
          have h2 := HG2.out.room
          have h3 := HG2.out.cap
          omega
        rw [htl] at hF7 hc7
        have HF7 := hd hF7; have HQ7 := hd hQ7; have HTL := hd htl
        rw [htl]
        clear hF7 hb7 hQ7 HFI HQ6 htl
        go_wp2_with fail
        refine Calls.mono HDN.out ?_
        rintro e wq ⟨rfl, hwq⟩
        rw [hwq]
        clear hwq HDN
        go_wp2_with fail
        go_loopw [11, 12] (fun us i wx => ∃ j : Nat, j ≤ cs.length ∧ i = .int .i64 (j : Int) ∧ us = .int .i64 ((sumL ((Dk.told S2 true).take j) : Nat) : Int) ∧ ∃ q, wx = w7.drewN q) (fun _ i _ => cs.length - (intOf i).toNat)
        case atStart => exact ⟨0, by omega, rfl, rfl, 0, rfl⟩
        case round =>
          obtain ⟨j, hj, rfl, rfl, hwr⟩ := hrel
          have HWR := hd hwr
          have hbd : Below w7.heap.size w7 wr := by obtain ⟨q, rfl⟩ := hwr; exact ⟨rfl, rfl, rfl, Nat.le_refl _, fun _ _ => rfl⟩
          have HQr := hd (HQ7.out.bel hbd)
          have HFr := hd (HF7.out.same fun g _ hg => hbd.block g hg)
          clear hwr hbd
          by_cases hjl : j < cs.length
          · have hjf : j < S.fs.length := by have h1 := HP.out.length_eq; rw [List.length_map] at h1; omega
            obtain ⟨f, hf, _, _, hT⟩ := told_at (kp : Int) S HG.out j hjf
            rw [← HS2.out] at hT
            have hlas := HG.out.las f hf
            have hfl : f.dat.length ≤ 4194304 := by
              have h1 := get_len_le (get_of_mem HG.out.names hf)
              have h2 := HG.out.used; have h3 := HG.out.room; have h4 := HG.out.cap
              omega
            obtain ⟨m, hm⟩ : ∃ m, m = Dk.left (kp : Int) f := ⟨_, rfl⟩
            have hml : m ≤ f.dat.length := by rw [hm]; exact left_le _ _ hlas
            have hmv : (f.las + kp ≤ f.dat.length ∧ m = f.las + kp) ∨ (f.dat.length < f.las + kp ∧ m = f.dat.length) := by
              rw [hm]; unfold Dk.left
              rw [Int.toNat_natCast]
              omega
            rw [← hm] at hT
            have hst := sum_take hT
            have hsl := sum_le (Dk.told S2 true) (j + 1)
            obtain ⟨k', y, hix, hky, hyn, hgy⟩ : ∃ (k' : Nat) (y : De), ixI cs f.nm = (k' : Int) ∧ cs[k']? = some y ∧ y.1.nm = f.nm ∧ get S.fs f.nm = some y.1 := by
              rcases ix_get HP.out HG.out.names f.nm with ⟨_, h2, _⟩ | h
              · rw [get_of_mem HG.out.names hf] at h2; cases h2
              · exact h
            rw [get_of_mem HG.out.names hf] at hgy
            obtain ⟨yf, ya, yc⟩ := y
            simp only at hyn hgy
            obtain rfl := Option.some.inj hgy
            obtain ⟨g, hg, _, hc1, hc2, e0, e1, e2⟩ := JR.nth HQr.out.row hky
            subst hg
            have hk'l : k' < cs.length := (List.getElem?_eq_some_iff.1 hky).1
            have hIy := HQr.out.byt (List.mem_of_getElem? hky)
            simp only at hIy e1
            obtain ⟨hsl1, hsl2⟩ := run_slO_to hIy (isB_cap hIy) m hml
            obtain ⟨gA, kA, uA, vA, hvA, hlA, hmA, x1, x2, hJA⟩ := HFr.out.at hT
            rw [HTL.out] at hvA hlA
            injection hvA with hv1 hv2 hv3
            clear hv2
            subst hv1 hv3
            have hdl : (f.dat.take m).length = m := by rw [List.length_take]; omega
            rw [hdl] at x2 hJA
            simp only [hdl] at hst
            have HFD := hd (find_is wr w.heap.size (.slice (some ⟨g, 0, none⟩) cs.length cv) cs f.nm HQr.out.row (by omega))
            rw [hix] at HFD
            have HSB := hd fun (n : Nat) => sameBytes_is (.slice uA m vA) (.slice ya m yc) (f.dat.take m) (wr.drewN n) (hJA.isB.below ⟨rfl, rfl, rfl, Nat.le_refl _, fun _ _ => rfl⟩) (hsl2.below ⟨rfl, rfl, rfl, Nat.le_refl _, fun _ _ => rfl⟩)
            have HST := hd hst
            obtain ⟨us, hus2⟩ : ∃ us, us = sumL ((Dk.told S2 true).take j) := ⟨_, rfl⟩
            have husl : us + m ≤ 4194304 := by rw [hus2]; omega
            have HSU : Hid (sumL ((Dk.told S2 true).take (j + 1)) = us + m) := by show _ = _; rw [hus2]; exact hst
            rw [← hus2]
            have HREL : Hid (∀ n, ∃ q, wr.drewN n = w7.drewN q) := fun n => by
              obtain ⟨q, rfl⟩ := HWR.out
              rw [World.drewN_drewN]; exact ⟨_, rfl⟩
            have hkb : decide ((k' : Int) < 0) = false := decide_eq_false (by omega)
            have HREL0 := HWR.out
            cases j with
            | zero =>
              simp only [Nat.zero_mul, Nat.zero_add] at x1 x2
              rcases hmv with ⟨hm1, hm2⟩ | ⟨hm1, hm2⟩
              · have hsA : ∀ w, (slO 27 (.slice ya f.dat.length yc) none (some (.int .i64 ((f.las : Int) + (kp : Int)))) none).run Try.prog w = .ok (.slice ya m yc) w := fun w => by
                  have := hsl1 w
                  rw [show ((m : Nat) : Int) = (f.las : Int) + (kp : Int) by omega] at this
                  exact this
                have HM2 := hd hm2
                clear hsl1 hm2 hm hst hus2 hdl hix hjf hT
                go_wp2_with fail
                refine Calls.mono HFD.out ?_
                rintro e wq ⟨rfl, hwq⟩
                rw [hwq]
                clear hwq HFD
                go_wp2_with fail
                go_quiet (fail)
                go_wp2_with fail
                go_quiet ((go_at_call 11; first | exact quiet_at0 (HSB.out _) | exact quiet_at (HSB.out _)))
                go_wp2_with fail
                go_roundw
                case rel => exact ⟨1, by omega, by go_num, by rw [HSU.out, HM2.out]; go_num, HREL.out _⟩
                case measure => simp [intOf]; omega
              · have hsA : ∀ w, (slO 27 (.slice ya f.dat.length yc) none (some (.int .i64 (f.dat.length : Int))) none).run Try.prog w = .ok (.slice ya m yc) w := fun w => by
                  have := hsl1 w
                  rw [show ((m : Nat) : Int) = (f.dat.length : Int) by omega] at this
                  exact this
                have HM2 := hd hm2
                clear hsl1 hm2 hm hst hus2 hdl hix hjf hT
                go_wp2_with fail
                refine Calls.mono HFD.out ?_
                rintro e wq ⟨rfl, hwq⟩
                rw [hwq]
                clear hwq HFD
                go_wp2_with fail
                go_quiet (fail)
                go_wp2_with fail
                go_quiet ((go_at_call 11; first | exact quiet_at0 (HSB.out _) | exact quiet_at (HSB.out _)))
                go_wp2_with fail
                go_roundw
                case rel => exact ⟨1, by omega, by go_num, by rw [HSU.out, HM2.out]; go_num, HREL.out _⟩
                case measure => simp [intOf]; omega
            | succ j =>
              obtain ⟨pj, hpj⟩ : ∃ pj, (Dk.told S2 true)[j]? = some pj := ⟨_, List.getElem?_eq_getElem (by rw [HTL.out]; omega)⟩
              have hbl := told_lt HG2.out hpj hT
              obtain ⟨pn, pd⟩ := pj
              obtain ⟨gB, kB, uB, vB, hvB, hlB, hmB, z1, z2, hJB⟩ := HFr.out.at hpj
              have hgB : gA = gB := by
                injection hvB with hvB
                injection hvB with hvB
                injection hvB with hvB
              clear hvB
              subst hgB
              simp only at hbl
              clear hJB hpj z2
              rcases hmv with ⟨hm1, hm2⟩ | ⟨hm1, hm2⟩
              · have hsA : ∀ w, (slO 27 (.slice ya f.dat.length yc) none (some (.int .i64 ((f.las : Int) + (kp : Int)))) none).run Try.prog w = .ok (.slice ya m yc) w := fun w => by
                  have := hsl1 w
                  rw [show ((m : Nat) : Int) = (f.las : Int) + (kp : Int) by omega] at this
                  exact this
                have HM2 := hd hm2
                clear hsl1 hm2 hm hst hus2 hdl hix hjf hT
                go_wp2_with fail
                refine Calls.mono HFD.out ?_
                rintro e wq ⟨rfl, hwq⟩
                rw [hwq]
                clear hwq HFD
                go_wp2_with fail
                go_quiet (fail)
                go_wp2_with fail
                go_quiet ((go_at_call 11; first | exact quiet_at0 (HSB.out _) | exact quiet_at (HSB.out _)))
                go_wp2_with fail
                go_roundw
                case rel => exact ⟨j + 2, by omega, by go_num, by rw [HSU.out, HM2.out]; go_num, HREL.out _⟩
                case measure => simp [intOf]; omega
              · have hsA : ∀ w, (slO 27 (.slice ya f.dat.length yc) none (some (.int .i64 (f.dat.length : Int))) none).run Try.prog w = .ok (.slice ya m yc) w := fun w => by
                  have := hsl1 w
                  rw [show ((m : Nat) : Int) = (f.dat.length : Int) by omega] at this
                  exact this
                have HM2 := hd hm2
                clear hsl1 hm2 hm hst hus2 hdl hix hjf hT
                go_wp2_with fail
                refine Calls.mono HFD.out ?_
                rintro e wq ⟨rfl, hwq⟩
                rw [hwq]
                clear hwq HFD
                go_wp2_with fail
                go_quiet (fail)
                go_wp2_with fail
                go_quiet ((go_at_call 11; first | exact quiet_at0 (HSB.out _) | exact quiet_at (HSB.out _)))
                go_wp2_with fail
                go_roundw
                case rel => exact ⟨j + 2, by omega, by go_num, by rw [HSU.out, HM2.out]; go_num, HREL.out _⟩
                case measure => simp [intOf]; omega
          · obtain rfl : cs.length = j := by omega
            have htk : (Dk.told S2 true).take cs.length = Dk.told S2 true := List.take_of_length_le (Nat.le_of_eq HTL.out)
            rw [htk]
            have HBF : Hid (Below w.heap.size w wr) := HQr.out.below
            have HUr : Hid (Calls Try.prog 12 #[.pointer (some ⟨d, 0, none⟩)] wr fun r w' => r = .returned (.int .i64 ((sumL (Dk.told S2 true) : Nat) : Int)) ∧ w' = wr) := by
              obtain ⟨O7, hK7, _⟩ := HQr.out.ex
              rw [told_sum hK7.good]
              exact used_is wr d O7 S2 hK7
            clear HUS htk
            generalize sumL (Dk.told S2 true) = ts at *
            go_wp2_with fail
            refine Calls.mono HUr.out ?_
            rintro e wq ⟨rfl, hwq⟩
            rw [hwq]
            clear hwq HUr
            go_wp2_with fail
            go_ret
            exact ⟨rfl, HBF.out⟩
      · clear hgo
        go_wp2_with fail
        refine Calls.mono (HPK.out wr) ?_
        rintro e wq ⟨rfl, hwq⟩
        rw [hwq]
        clear hwq
        have HCR := hd (HQ.out.act fun O hK _ _ => crash_is wr d O S (kp : Int) hK)
        go_wp2_with fail
        refine Calls.mono HCR.out ?_
        rintro e w6 ⟨rfl, hQ6⟩
        obtain ⟨S2, hS2⟩ : ∃ S2, S2 = crash (kp : Int) S := ⟨_, rfl⟩
        have hG := HQ.out.good
        rw [← hS2] at hQ6
        have HG := hd hG; have HS2 := hd hS2
        have hac2 : S2.acts ≤ 200 := by rw [hS2]; show S.acts ≤ 200; omega
        have HFI : Hid (Calls Try.prog 8 #[.pointer (some ⟨d, 0, none⟩)] w6 fun x w2 => ∃ v, x = .returned v ∧ FLs w2 w6.heap.size v (Dk.told S2 true) ∧ Below w6.heap.size w6 w2) := by
          obtain ⟨O6, hK6, _⟩ := hQ6.ex
          exact files_is w6 d O6 S2 hK6 (by omega)
        have HQ6 := hd hQ6
        clear hQ6 HCR hG hS2 HQ
        go_wp2_with fail
        refine Calls.mono HFI.out ?_
        rintro e w7 ⟨v7, rfl, hF7, hb7⟩
        have hQ7 := HQ6.out.bel hb7
        obtain ⟨a7, c7, hv7, hc7⟩ := hF7.shape
        subst hv7
        have htl : (Dk.told S2 true).length = cs.length := by
          have h1 := HP.out.length_eq
          rw [List.length_map] at h1
          rw [told_len, HS2.out, h1]
          show (S.fs.map _).length = _
          rw [List.length_map]
        have hcl : cs.length ≤ 400 := by
          have h1 := HP.out.length_eq
          rw [List.length_map] at h1
          have := HG.out.cnt
          omega
        have HDN : Hid (Calls Try.prog 9 #[.pointer (some ⟨d, 0, none⟩)] w7 fun r w' => r = .returned (.bool false) ∧ w' = w7) := by
          obtain ⟨O7, hK7, _⟩ := hQ7.ex
          have := down_is w7 d O7 S2 hK7
          rw [show S2.down = false by rw [HS2.out]; rfl] at this
          exact this
        have HUS : Hid (Calls Try.prog 12 #[.pointer (some ⟨d, 0, none⟩)] w7 fun r w' => r = .returned (.int .i64 ((sumL (Dk.told S2 true) : Nat) : Int)) ∧ w' = w7) := by
          obtain ⟨O7, hK7, _⟩ := hQ7.ex
          rw [told_sum hK7.good]
          exact used_is w7 d O7 S2 hK7
        have HG2 := hd hQ7.good
        have hsm : sumL (Dk.told S2 true) ≤ 4194304 := by
          have h1 := told_sum HG2.out
          have h2 := HG2.out.room
          have h3 := HG2.out.cap
          omega
        rw [htl] at hF7 hc7
        have HF7 := hd hF7; have HQ7 := hd hQ7; have HTL := hd htl
        rw [htl]
        clear hF7 hb7 hQ7 HFI HQ6 htl
        go_wp2_with fail
        refine Calls.mono HDN.out ?_
        rintro e wq ⟨rfl, hwq⟩
        rw [hwq]
        clear hwq HDN
        go_wp2_with fail
        go_loopw [11, 12] (fun us i wx => ∃ j : Nat, j ≤ cs.length ∧ i = .int .i64 (j : Int) ∧ us = .int .i64 ((sumL ((Dk.told S2 true).take j) : Nat) : Int) ∧ ∃ q, wx = w7.drewN q) (fun _ i _ => cs.length - (intOf i).toNat)
        case atStart => exact ⟨0, by omega, rfl, rfl, 0, rfl⟩
        case round =>
          obtain ⟨j, hj, rfl, rfl, hwr⟩ := hrel
          have HWR := hd hwr
          have hbd : Below w7.heap.size w7 wr := by obtain ⟨q, rfl⟩ := hwr; exact ⟨rfl, rfl, rfl, Nat.le_refl _, fun _ _ => rfl⟩
          have HQr := hd (HQ7.out.bel hbd)
          have HFr := hd (HF7.out.same fun g _ hg => hbd.block g hg)
          clear hwr hbd
          by_cases hjl : j < cs.length
          · have hjf : j < S.fs.length := by have h1 := HP.out.length_eq; rw [List.length_map] at h1; omega
            obtain ⟨f, hf, _, _, hT⟩ := told_at (kp : Int) S HG.out j hjf
            rw [← HS2.out] at hT
            have hlas := HG.out.las f hf
            have hfl : f.dat.length ≤ 4194304 := by
              have h1 := get_len_le (get_of_mem HG.out.names hf)
              have h2 := HG.out.used; have h3 := HG.out.room; have h4 := HG.out.cap
              omega
            obtain ⟨m, hm⟩ : ∃ m, m = Dk.left (kp : Int) f := ⟨_, rfl⟩
            have hml : m ≤ f.dat.length := by rw [hm]; exact left_le _ _ hlas
            have hmv : (f.las + kp ≤ f.dat.length ∧ m = f.las + kp) ∨ (f.dat.length < f.las + kp ∧ m = f.dat.length) := by
              rw [hm]; unfold Dk.left
              rw [Int.toNat_natCast]
              omega
            rw [← hm] at hT
            have hst := sum_take hT
            have hsl := sum_le (Dk.told S2 true) (j + 1)
            obtain ⟨k', y, hix, hky, hyn, hgy⟩ : ∃ (k' : Nat) (y : De), ixI cs f.nm = (k' : Int) ∧ cs[k']? = some y ∧ y.1.nm = f.nm ∧ get S.fs f.nm = some y.1 := by
              rcases ix_get HP.out HG.out.names f.nm with ⟨_, h2, _⟩ | h
              · rw [get_of_mem HG.out.names hf] at h2; cases h2
              · exact h
            rw [get_of_mem HG.out.names hf] at hgy
            obtain ⟨yf, ya, yc⟩ := y
            simp only at hyn hgy
            obtain rfl := Option.some.inj hgy
            obtain ⟨g, hg, _, hc1, hc2, e0, e1, e2⟩ := JR.nth HQr.out.row hky
            subst hg
            have hk'l : k' < cs.length := (List.getElem?_eq_some_iff.1 hky).1
            have hIy := HQr.out.byt (List.mem_of_getElem? hky)
            simp only at hIy e1
            obtain ⟨hsl1, hsl2⟩ := run_slO_to hIy (isB_cap hIy) m hml
            obtain ⟨gA, kA, uA, vA, hvA, hlA, hmA, x1, x2, hJA⟩ := HFr.out.at hT
            rw [HTL.out] at hvA hlA
            injection hvA with hv1 hv2 hv3
            clear hv2
            subst hv1 hv3
            have hdl : (f.dat.take m).length = m := by rw [List.length_take]; omega
            rw [hdl] at x2 hJA
            simp only [hdl] at hst
            have HFD := hd (find_is wr w.heap.size (.slice (some ⟨g, 0, none⟩) cs.length cv) cs f.nm HQr.out.row (by omega))
            rw [hix] at HFD
            have HSB := hd fun (n : Nat) => sameBytes_is (.slice uA m vA) (.slice ya m yc) (f.dat.take m) (wr.drewN n) (hJA.isB.below ⟨rfl, rfl, rfl, Nat.le_refl _, fun _ _ => rfl⟩) (hsl2.below ⟨rfl, rfl, rfl, Nat.le_refl _, fun _ _ => rfl⟩)
            have HST := hd hst
            obtain ⟨us, hus2⟩ : ∃ us, us = sumL ((Dk.told S2 true).take j) := ⟨_, rfl⟩
            have husl : us + m ≤ 4194304 := by rw [hus2]; omega
            have HSU : Hid (sumL ((Dk.told S2 true).take (j + 1)) = us + m) := by show _ = _; rw [hus2]; exact hst
            rw [← hus2]
            have HREL : Hid (∀ n, ∃ q, wr.drewN n = w7.drewN q) := fun n => by
              obtain ⟨q, rfl⟩ := HWR.out
              rw [World.drewN_drewN]; exact ⟨_, rfl⟩
            have hkb : decide ((k' : Int) < 0) = false := decide_eq_false (by omega)
            have HREL0 := HWR.out
            cases j with
            | zero =>
              simp only [Nat.zero_mul, Nat.zero_add] at x1 x2
              rcases hmv with ⟨hm1, hm2⟩ | ⟨hm1, hm2⟩
              · have hsA : ∀ w, (slO 27 (.slice ya f.dat.length yc) none (some (.int .i64 ((f.las : Int) + (kp : Int)))) none).run Try.prog w = .ok (.slice ya m yc) w := fun w => by
                  have := hsl1 w
                  rw [show ((m : Nat) : Int) = (f.las : Int) + (kp : Int) by omega] at this
                  exact this
                have HM2 := hd hm2
                clear hsl1 hm2 hm hst hus2 hdl hix hjf hT
                go_wp2_with fail
                refine Calls.mono HFD.out ?_
                rintro e wq ⟨rfl, hwq⟩
                rw [hwq]
                clear hwq HFD
                go_wp2_with fail
                go_quiet (fail)
                go_wp2_with fail
                go_quiet ((go_at_call 11; first | exact quiet_at0 (HSB.out _) | exact quiet_at (HSB.out _)))
                go_wp2_with fail
                go_roundw
                case rel => exact ⟨1, by omega, by go_num, by rw [HSU.out, HM2.out]; go_num, HREL.out _⟩
                case measure => simp [intOf]; omega
              · have hsA : ∀ w, (slO 27 (.slice ya f.dat.length yc) none (some (.int .i64 (f.dat.length : Int))) none).run Try.prog w = .ok (.slice ya m yc) w := fun w => by
                  have := hsl1 w
                  rw [show ((m : Nat) : Int) = (f.dat.length : Int) by omega] at this
                  exact this
                have HM2 := hd hm2
                clear hsl1 hm2 hm hst hus2 hdl hix hjf hT
                go_wp2_with fail
                refine Calls.mono HFD.out ?_
                rintro e wq ⟨rfl, hwq⟩
                rw [hwq]
                clear hwq HFD
                go_wp2_with fail
                go_quiet (fail)
                go_wp2_with fail
                go_quiet ((go_at_call 11; first | exact quiet_at0 (HSB.out _) | exact quiet_at (HSB.out _)))
                go_wp2_with fail
                go_roundw
                case rel => exact ⟨1, by omega, by go_num, by rw [HSU.out, HM2.out]; go_num, HREL.out _⟩
                case measure => simp [intOf]; omega
            | succ j =>
              obtain ⟨pj, hpj⟩ : ∃ pj, (Dk.told S2 true)[j]? = some pj := ⟨_, List.getElem?_eq_getElem (by rw [HTL.out]; omega)⟩
              have hbl := told_lt HG2.out hpj hT
              obtain ⟨pn, pd⟩ := pj
              obtain ⟨gB, kB, uB, vB, hvB, hlB, hmB, z1, z2, hJB⟩ := HFr.out.at hpj
              have hgB : gA = gB := by
                injection hvB with hvB
                injection hvB with hvB
                injection hvB with hvB
              clear hvB
              subst hgB
              simp only at hbl
              clear hJB hpj z2
              rcases hmv with ⟨hm1, hm2⟩ | ⟨hm1, hm2⟩
              · have hsA : ∀ w, (slO 27 (.slice ya f.dat.length yc) none (some (.int .i64 ((f.las : Int) + (kp : Int)))) none).run Try.prog w = .ok (.slice ya m yc) w := fun w => by
                  have := hsl1 w
                  rw [show ((m : Nat) : Int) = (f.las : Int) + (kp : Int) by omega] at this
                  exact this
                have HM2 := hd hm2
                clear hsl1 hm2 hm hst hus2 hdl hix hjf hT
                go_wp2_with fail
                refine Calls.mono HFD.out ?_
                rintro e wq ⟨rfl, hwq⟩
                rw [hwq]
                clear hwq HFD
                go_wp2_with fail
                go_quiet (fail)
                go_wp2_with fail
                go_quiet ((go_at_call 11; first | exact quiet_at0 (HSB.out _) | exact quiet_at (HSB.out _)))
                go_wp2_with fail
                go_roundw
                case rel => exact ⟨j + 2, by omega, by go_num, by rw [HSU.out, HM2.out]; go_num, HREL.out _⟩
                case measure => simp [intOf]; omega
              · have hsA : ∀ w, (slO 27 (.slice ya f.dat.length yc) none (some (.int .i64 (f.dat.length : Int))) none).run Try.prog w = .ok (.slice ya m yc) w := fun w => by
                  have := hsl1 w
                  rw [show ((m : Nat) : Int) = (f.dat.length : Int) by omega] at this
                  exact this
                have HM2 := hd hm2
                clear hsl1 hm2 hm hst hus2 hdl hix hjf hT
                go_wp2_with fail
                refine Calls.mono HFD.out ?_
                rintro e wq ⟨rfl, hwq⟩
                rw [hwq]
                clear hwq HFD
                go_wp2_with fail
                go_quiet (fail)
                go_wp2_with fail
                go_quiet ((go_at_call 11; first | exact quiet_at0 (HSB.out _) | exact quiet_at (HSB.out _)))
                go_wp2_with fail
                go_roundw
                case rel => exact ⟨j + 2, by omega, by go_num, by rw [HSU.out, HM2.out]; go_num, HREL.out _⟩
                case measure => simp [intOf]; omega
          · obtain rfl : cs.length = j := by omega
            have htk : (Dk.told S2 true).take cs.length = Dk.told S2 true := List.take_of_length_le (Nat.le_of_eq HTL.out)
            rw [htk]
            have HBF : Hid (Below w.heap.size w wr) := HQr.out.below
            have HUr : Hid (Calls Try.prog 12 #[.pointer (some ⟨d, 0, none⟩)] wr fun r w' => r = .returned (.int .i64 ((sumL (Dk.told S2 true) : Nat) : Int)) ∧ w' = wr) := by
              obtain ⟨O7, hK7, _⟩ := HQr.out.ex
              rw [told_sum hK7.good]
              exact used_is wr d O7 S2 hK7
            clear HUS htk
            generalize sumL (Dk.told S2 true) = ts at *
            go_wp2_with fail
            refine Calls.mono HUr.out ?_
            rintro e wq ⟨rfl, hwq⟩
            rw [hwq]
            clear hwq HUr
            go_wp2_with fail
            go_ret
            exact ⟨rfl, HBF.out⟩
end Tl
end Go.Proofs.Ytpjfoinkifkdoaa
