/-
  DiskLasts: what was synced is there behind any crash, whatever else is done. The walk.
-/
import Derived.Test.YtiooodhgndklkaaDkj
import Derived.Test.YtiooodhgndklkaaDkl
namespace Go.Proofs.Ytiooodhgndklkaa
open Go.ChangeShapes Go.WideShapes Go.ChangeAt Go.RowKit Go.Maps
namespace Dlw
open Vt Dk
theorem up_nx {B : Nat} {w : World} {d : Nat} {S S' : Ds} {W W' : World} {O : Nat → Prop} (h : Up B w d S W) (hO : ∀ b, O b → B ≤ b) (hx : Nx O W d S' W') : Up B w d S' W' := by
  obtain ⟨O', k1, k2, k3⟩ := hx
  have hb := k2.below hO h.size
  have hs := h.size
  have hs' := k2.size
  exact ⟨⟨O', k1, fun b q => (k3 b q).elim (hO b) (fun z => by omega)⟩, ⟨hb.os.trans h.below.os, hb.tape.trans h.below.tape, hb.output.trans h.below.output, Nat.le_trans h.below.size hb.size, fun k hk => (hb.block k hk).trans (h.below.block k hk)⟩, by omega⟩
/-- a disk beside a list that was read -/
structure LL (B : Nat) (w : World) (d : Nat) (S : Ds) (v : Value) (l : List Nat) (W : World) : Prop where
  dk : ∃ O, DK W d O S ∧ ∀ b, O b → B ≤ b ∧ v.ownBlock ≠ some b
  row : JB W 0 v l
  below : Below B w W
  size : B ≤ W.heap.size
theorem LL.nx {B : Nat} {w : World} {d : Nat} {S S' : Ds} {v : Value} {l : List Nat} {W W' : World} {O : Nat → Prop} (h : LL B w d S v l W) (hO : ∀ b, O b → B ≤ b ∧ v.ownBlock ≠ some b) (hx : Nx O W d S' W') : LL B w d S' v l W' := by
  obtain ⟨O', k1, k2, k3⟩ := hx
  have hb := k2.below (fun b q => (hO b q).1) h.size
  have hs := h.size
  have hs' := k2.size
  refine ⟨⟨O', k1, fun b q => (k3 b q).elim (hO b) (fun z => ⟨by omega, fun e => ?_⟩)⟩, JB.same h.row fun g hg => k2.block g (h.row.blk_lt g hg) (fun q => (hO g q).2 hg), ⟨hb.os.trans h.below.os, hb.tape.trans h.below.tape, hb.output.trans h.below.output, Nat.le_trans h.below.size hb.size, fun k hk => (hb.block k hk).trans (h.below.block k hk)⟩, by omega⟩
  have := h.row.blk_lt b e
  omega
theorem LL.alloc {B : Nat} {w : World} {d : Nat} {S : Ds} {v : Value} {l : List Nat} {W : World} (h : LL B w d S v l W) (o : Obj) : LL B w d S v l (W.alloc o) := by
  obtain ⟨O, h1, h2⟩ := h.dk
  exact ⟨⟨O, h1.keep (fun b q => (MapKept.heap_alloc W o).2 b (h1.olt b q)) (by simp), h2⟩, JB.same h.row fun g hg => (MapKept.heap_alloc W o).2 g (h.row.blk_lt g hg), h.below.alloc h.size o, by have := h.size; rw [alloc_size]; omega⟩
theorem LL.drewN {B : Nat} {w : World} {d : Nat} {S : Ds} {v : Value} {l : List Nat} {W : World} (h : LL B w d S v l W) (n : Nat) : LL B w d S v l (W.drewN n) := by
  obtain ⟨O, h1, h2⟩ := h.dk
  exact ⟨⟨O, h1.keep (fun _ _ => rfl) (Nat.le_refl _), h2⟩, h.row, ⟨h.below.os, h.below.tape, h.below.output, h.below.size, h.below.block⟩, h.size⟩
theorem neL {s : ByteArray} (h : ¬ s = ({ data := #[108, 97, 115, 116, 115] } : ByteArray)) : (s.toList == [108, 97, 115, 116, 115]) = false := by
  rw [beq_eq_false_iff_ne, ByteArray.toList_eq]
  intro e
  exact h (Go.WideShapes.bytes_inj e)
theorem ok0 (l : List Op7) : Ok (actsS s0 l) := actsS_ok ⟨rfl, rfl, rfl⟩ l
set_option maxRecDepth 100000 in
set_option maxHeartbeats 8000000 in
theorem walkS (v1 v2 : Value) (l1 l2 : List Op7) (keep : Int) (w : World) (h1 : Scr w.heap.size w v1 l1) (h2 : Scr w.heap.size w v2 l2) (hl1 : l1.length ≤ 140737488355328) (hl2 : l2.length ≤ 140737488355328) :
    Calls Try.prog 4 #[v1, v2, .int .i64 keep] w fun e w' => e = .returned (.bool true) ∧ Below w.heap.size w w' := by
  have kc := fun (w : World) (C : Array Value) (n c : Nat) => Lib.run_convert_bytes_const (P := Try.prog) w 27 5 C n c Try.underlying27 Try.underlying5
  obtain ⟨av, cv, rfl⟩ := h2.shape
  have HST := hd (started_is w.heap.size w w v1 l1 (Below.refl _ _) (Nat.le_refl _) h1 (by omega))
  have H2 := hd h2
  obtain ⟨a1, c1, rfl⟩ := h1.shape
  clear h1 h2
  go_enter Try.func4, Try.ntmps4
  go_wp2_with fail
  refine Calls.mono HST.out ?_
  rintro e w1 ⟨d, rfl, hU1⟩
  have hac1 : (actsS s0 l1).acts ≤ 1 + l1.length := actsS_acts s0 l1
  have hok1 := ok0 l1
  obtain ⟨S1, hS1⟩ : ∃ S1, S1 = actsS s0 l1 := ⟨_, rfl⟩
  rw [← hS1] at hU1 hac1 hok1
  clear hS1 HST
  obtain ⟨O1, hK1, hO1⟩ := hU1.dk
  have HCR := hd (create_is w1 d O1 S1 nmL hK1 (by omega))
  obtain ⟨hcr, hok2, f2, hf2⟩ := create_L hok1
  have hac2 : (create S1 nmL).2.acts ≤ 2 + l1.length := by
    have := actOf_acts S1 (rCreate S1 nmL) (gCreate nmL) (fun _ => rfl)
    show (actOf S1 (rCreate S1 nmL) (gCreate nmL)).2.acts ≤ _
    omega
  obtain ⟨r2, S2, hE2⟩ : ∃ r2 S2, create S1 nmL = (r2, S2) := ⟨_, _, rfl⟩
  rw [hE2] at HCR hcr hok2 hf2 hac2
  simp only at hcr hok2 hf2 hac2
  have HU1 := hd hU1
  have HO1 := hd hO1
  clear hU1 hK1 hO1 hE2
  go_wp2_with fail
  refine Calls.mono HCR.out ?_
  rintro e w2 ⟨rfl, hx2⟩
  have hU2 := up_nx HU1.out HO1.out hx2
  clear HU1 HO1 hx2 HCR
  obtain ⟨w3, hw3⟩ : ∃ w3, w3 = w2.alloc (.cells #[.int .u8 116, .int .u8 104, .int .u8 101, .int .u8 115, .int .u8 101, .int .u8 32, .int .u8 98, .int .u8 121, .int .u8 116, .int .u8 101, .int .u8 115] 5 (11, 12)) := ⟨_, rfl⟩
  have hU3 : Up w.heap.size w d S2 w3 := by rw [hw3]; exact hU2.alloc _
  have hI3 : IsB w3 (.slice (some ⟨w2.heap.size, 0, none⟩) 11 11) bT := by rw [hw3]; exact lit_marked w2 _ bT 11 (11, 12) rfl rfl (by decide) (by decide)
  have hd3 : w2.heap.size ≠ d := by
    obtain ⟨O, ⟨m, es, hk⟩, _⟩ := hU2.dk
    have := hk.box.lt
    omega
  obtain ⟨O3, hK3, hO3⟩ := hU3.dk
  have HAP := hd (append_is w3 d O3 S2 nmL _ bT hK3 (by omega) hI3 (fun _ b o n c q => by injection q with q; injection q with q; injection q with q; rw [← q]; exact hd3))
  obtain ⟨hok4, f4, hf4⟩ := append_L hok2 hf2 bT
  have hac4 : (append S2 nmL bT).2.acts ≤ 3 + l1.length := by
    have := actOf_acts S2 (rAppend S2 nmL bT) (gAppend nmL bT) (fun _ => rfl)
    show (actOf S2 (rAppend S2 nmL bT) (gAppend nmL bT)).2.acts ≤ _
    omega
  obtain ⟨r4, S4, hE4⟩ : ∃ r4 S4, append S2 nmL bT = (r4, S4) := ⟨_, _, rfl⟩
  rw [hE4] at HAP hok4 hf4 hac4
  simp only at hok4 hf4 hac4
  have HU3 := hd hU3
  have HO3 := hd hO3
  have HW3 := hd hw3
  have hr2' : ((r2 : Int) != 0 && (r2 : Int) != 72) = false := by
    rcases hcr with q | q <;> rw [q] <;> rfl
  clear hU2 hU3 hI3 hK3 hO3 hw3 hE4
  rcases hcr with rfl | rfl
  · go_wp2_with fail
    rw [← HW3.out]
    refine Calls.mono HAP.out ?_
    rintro e w4 ⟨rfl, hx4⟩
    have hU4 := up_nx HU3.out HO3.out hx4
    clear HU3 HO3 HW3 hx4 HAP
    obtain ⟨O4, hK4, hO4⟩ := hU4.dk
    have HSY := hd (sync_is w4 d O4 S4 nmL hK4 (by omega))
    obtain ⟨hr5, hok5, hf5⟩ := sync_L hok4 hf4
    have hac5 : (sync S4 nmL).2.acts ≤ 4 + l1.length := by
      have := actOf_acts S4 (Dk.look S4 nmL true) (gSync nmL) (fun _ => rfl)
      show (actOf S4 (Dk.look S4 nmL true) (gSync nmL)).2.acts ≤ _
      omega
    obtain ⟨r5, S5, hE5⟩ : ∃ r5 S5, sync S4 nmL = (r5, S5) := ⟨_, _, rfl⟩
    rw [hE5] at HSY hr5 hok5 hf5 hac5
    simp only at hr5 hok5 hf5 hac5
    subst hr5
    have HU4 := hd hU4
    have HO4 := hd hO4
    clear hU4 hK4 hO4 hE5
    go_wp2_with fail
    refine Calls.mono HSY.out ?_
    rintro e w5 ⟨rfl, hx5⟩
    have hU5 := up_nx HU4.out HO4.out hx5
    clear HU4 HO4 hx5 HSY
    obtain ⟨O5, hK5, hO5⟩ := hU5.dk
    obtain ⟨n, hn⟩ : ∃ n, n = f4.dat.length := ⟨_, rfl⟩
    have HSZ := hd (size_is w5 d O5 S5 nmL hK5)
    have hsz5 : sizeOf_ S5 nmL = n := by
      unfold sizeOf_
      rw [look_of hok5 hf5 true rfl, hf5, hn]; rfl
    rw [hsz5, look_of hok5 hf5 true rfl] at HSZ
    have HRD := hd (read_is w5 d O5 S5 nmL 0 (n : Int) hK5 (by omega))
    obtain ⟨hr6, hok6, hfs6, hby6, hac6⟩ := read_L hok5 hf5 n
    have hby6' : Dk.bytes S5 nmL 0 (n : Int) = f4.dat := by rw [hby6, hn]; exact List.take_length
    rw [hby6'] at HRD
    obtain ⟨r6, S6, hE6⟩ : ∃ r6 S6, read S5 nmL 0 (n : Int) = (r6, S6) := ⟨_, _, rfl⟩
    rw [hE6] at HRD hr6 hok6 hfs6 hac6
    simp only at hr6 hok6 hfs6 hac6
    subst hr6
    have hLI6 : LI n f4.dat S6 := ⟨hok6, { f4 with las := f4.dat.length }, by rw [hfs6]; exact hf5, by rw [hn]; exact Nat.le_refl _, by rw [hn]; exact List.take_length⟩
    have hmx5 : n ≤ 4194304 := by
      have h1 := hK5.good.cap
      have h2 := hK5.good.room
      have h3 := hK5.good.used
      have h4 : f4.dat.length ≤ tot S5.fs := get_len_le (f := { f4 with las := f4.dat.length }) hf5
      omega
    have HU5 := hd hU5
    have HO5 := hd hO5
    have HK5 := hd hK5
    have HNn := hd hn
    clear hU5 hK5 hO5 hE6 hsz5 hby6 hby6' hn
    go_wp2_with fail
    refine Calls.mono HSZ.out ?_
    rintro e w6 ⟨rfl, rfl⟩
    go_wp2_with fail
    refine Calls.mono HRD.out ?_
    rintro e w7 ⟨wv, rfl, hK7, ht7, hJ7, _, hl7⟩
    have hJ7' := hJ7 rfl
    obtain ⟨aw, cw, rfl, _⟩ := hJ7'.shape
    rw [← HNn.out] at hJ7' hl7 ⊢
    have hL7 : LL w.heap.size w d S6 (.slice aw n cw) f4.dat w7 := by
      have hb := ht7.below HO5.out HU5.out.size
      have hs := HU5.out.size
      have hs' := ht7.size
      refine ⟨⟨O5, hK7, fun b q => ⟨HO5.out b q, fun z => ?_⟩⟩, hJ7', ⟨hb.os.trans HU5.out.below.os, hb.tape.trans HU5.out.below.tape, hb.output.trans HU5.out.below.output, Nat.le_trans HU5.out.below.size hb.size, fun k hk => (hb.block k hk).trans (HU5.out.below.block k hk)⟩, by omega⟩
      have h1 := hl7 b z
      have h2 := HK5.out.olt b q
      omega
    have HL7 := hd hL7
    have HLI6 := hd hLI6
    have hac6' : S6.acts ≤ 5 + l1.length := by omega
    clear hK7 ht7 hJ7 hJ7' hl7 hL7 hLI6 HU5 HO5 HK5 HRD HSZ hok1 hok2 hok4 hok5 hok6 hf2 hf4 hf5 hfs6 hac1 hac2 hac4 hac5 hac6
    go_wp2_with fail
    go_loopw [14] (fun i wr => ∃ (k : Nat) (S : Ds), k ≤ l2.length ∧ i = .int .i64 (k : Int) ∧ LL w.heap.size w d S (.slice aw n cw) f4.dat wr ∧ LI n f4.dat S ∧ S.acts ≤ 5 + l1.length + k) (fun i _ => l2.length - (intOf i).toNat)
    case atStart => exact ⟨0, S6, by omega, rfl, HL7.out, HLI6.out, by omega⟩
    case round =>
      obtain ⟨k, S, hk, rfl, hLk, hLIk, hack⟩ := hrel
      have HLk := hd hLk
      have HLIk := hd hLIk
      clear hLk hLIk HL7 HLI6
      by_cases hlt : k < l2.length
      · rcases H2.out with ⟨rfl, _⟩ | ⟨sb, so, c, he, hlc, hcm, hsb, hop⟩
        · simp at hlt
        injection he with he1 he2 he3
        subst he1 he3
        obtain ⟨ua, uc, hO0⟩ := hop k hlt
        have hOk := hO0.keep HLk.out.below hsb
        clear hO0 hop
        have c0 : wr.cell? ⟨sb, so + k * 7, none⟩ = some (.int .i64 (l2.getD k op0).kind) := hOk.cell 0 _ rfl
        have d1 := hOk.cell 1 _ rfl
        have d2 := hOk.cell 2 _ rfl
        have d3 := hOk.cell 3 _ rfl
        have d4 := hOk.cell 4 _ rfl
        have d5 := hOk.cell 5 _ rfl
        have d6 := hOk.cell 6 _ rfl
        have hrow0 := hOk.row
        have hlow := hOk.low
        clear hOk
        generalize l2.getD k op0 = o at *
        obtain ⟨kind, nm, to, dat, on, om, dn⟩ := o
        simp only at c0 d1 d2 d3 d4 d5 d6 hrow0 hlow
        obtain ⟨wx, hwx⟩ : ∃ wx, wx = wr.alloc (.cells #[.int .i64 kind, .string nm, .string to, .slice ua dat.length uc, .int .i64 on, .int .i64 om, .bool dn] TO) := ⟨_, rfl⟩
        have hrow : IsB wx (.slice ua dat.length uc) dat := by rw [hwx]; exact hrow0.below ((Below.refl _ wr).alloc (Nat.le_refl _) _)
        have HLX : Hid (LL w.heap.size w d S (.slice aw n cw) f4.dat wx) := by rw [hwx]; exact HLk.out.alloc _
        have HX := hd hwx
        clear hwx hrow0 HLk
        by_cases k4 : kind = 4
        · subst k4
          by_cases hnm : nm = ({ data := #[108, 97, 115, 116, 115] } : ByteArray)
          · subst hnm
            clear hrow hlow
            go_wp2_with fail
            rw [← HX.out]
            refine ⟨⟨k + 1, S, by omega, rfl, HLX.out, HLIk.out, by omega⟩, ?_⟩
            simp [intOf]
            omega
          · have htl1 := neL hnm
            by_cases hto : to = ({ data := #[108, 97, 115, 116, 115] } : ByteArray)
            · subst hto
              clear hrow hlow
              go_wp2_with fail
              rw [← HX.out]
              refine ⟨⟨k + 1, S, by omega, rfl, HLX.out, HLIk.out, by omega⟩, ?_⟩
              simp [intOf]
              omega
            · have htl2 := neL hto
              have hnt : ¬ touches ⟨4, nm, to, dat, on, om, dn⟩ := by
                unfold touches
                rintro (⟨_, q | q⟩ | ⟨q | q, _⟩)
                · exact hnm q
                · exact hto q
                · cases q
                · cases q
              obtain ⟨O, hKO, hOO⟩ := HLX.out.dk
              have HC := hd (lact_is wx d O S ⟨4, nm, to, dat, on, om, dn⟩ ua uc hKO (by omega) hrow (fun h0 b of nn cc q => by have := hlow h0 b of nn cc q; have := (hOO d (by obtain ⟨_, _, hk⟩ := hKO; exact hk.own.1)).1; omega))
              have hLI' := HLIk.out.act hKO.good hnt
              have hacN := actS_acts S ⟨4, nm, to, dat, on, om, dn⟩
              obtain ⟨rA, SA, hEA⟩ : ∃ rA SA, actS S ⟨4, nm, to, dat, on, om, dn⟩ = (rA, SA) := ⟨_, _, rfl⟩
              rw [hEA] at HC hLI' hacN
              simp only [opc] at HC hacN
              have HLI' := hd hLI'
              have HOO := hd hOO
              clear hEA hLI' hKO hnt hrow hlow hOO
              go_wp2_with fail
              rw [← HX.out]
              refine Calls.mono HC.out ?_
              rintro e wy ⟨rfl, hxy⟩
              have HLY := hd (HLX.out.nx HOO.out hxy)
              clear hxy HC
              go_wp2_with fail
              go_roundw
              case rel => exact ⟨k + 1, SA, by omega, by go_num, HLY.out, HLI'.out, by omega⟩
              case measure => simp [intOf]; omega
        · by_cases k5 : kind = 5
          · subst k5
            clear k4
            by_cases hnm : nm = ({ data := #[108, 97, 115, 116, 115] } : ByteArray)
            · subst hnm
              clear hrow hlow
              go_wp2_with fail
              rw [← HX.out]
              refine ⟨⟨k + 1, S, by omega, rfl, HLX.out, HLIk.out, by omega⟩, ?_⟩
              simp [intOf]
              omega
            · have htl1 := neL hnm
              have hnt : ¬ touches ⟨5, nm, to, dat, on, om, dn⟩ := by
                unfold touches
                rintro (⟨q, _⟩ | ⟨_, q⟩)
                · cases q
                · exact hnm q
              obtain ⟨O, hKO, hOO⟩ := HLX.out.dk
              have HC := hd (lact_is wx d O S ⟨5, nm, to, dat, on, om, dn⟩ ua uc hKO (by omega) hrow (fun h0 b of nn cc q => by have := hlow h0 b of nn cc q; have := (hOO d (by obtain ⟨_, _, hk⟩ := hKO; exact hk.own.1)).1; omega))
              have hLI' := HLIk.out.act hKO.good hnt
              have hacN := actS_acts S ⟨5, nm, to, dat, on, om, dn⟩
              obtain ⟨rA, SA, hEA⟩ : ∃ rA SA, actS S ⟨5, nm, to, dat, on, om, dn⟩ = (rA, SA) := ⟨_, _, rfl⟩
              rw [hEA] at HC hLI' hacN
              simp only [opc] at HC hacN
              have HLI' := hd hLI'
              have HOO := hd hOO
              clear hEA hLI' hKO hnt hrow hlow hOO
              go_wp2_with fail
              rw [← HX.out]
              refine Calls.mono HC.out ?_
              rintro e wy ⟨rfl, hxy⟩
              have HLY := hd (HLX.out.nx HOO.out hxy)
              clear hxy HC
              go_wp2_with fail
              go_roundw
              case rel => exact ⟨k + 1, SA, by omega, by go_num, HLY.out, HLI'.out, by omega⟩
              case measure => simp [intOf]; omega
          · by_cases k6 : kind = 6
            · subst k6
              clear k4 k5
              by_cases hnm : nm = ({ data := #[108, 97, 115, 116, 115] } : ByteArray)
              · subst hnm
                clear hrow hlow
                go_wp2_with fail
                rw [← HX.out]
                refine ⟨⟨k + 1, S, by omega, rfl, HLX.out, HLIk.out, by omega⟩, ?_⟩
                simp [intOf]
                omega
              · have htl1 := neL hnm
                have hnt : ¬ touches ⟨6, nm, to, dat, on, om, dn⟩ := by
                  unfold touches
                  rintro (⟨q, _⟩ | ⟨_, q⟩)
                  · cases q
                  · exact hnm q
                obtain ⟨O, hKO, hOO⟩ := HLX.out.dk
                have HC := hd (lact_is wx d O S ⟨6, nm, to, dat, on, om, dn⟩ ua uc hKO (by omega) hrow (fun h0 b of nn cc q => by have := hlow h0 b of nn cc q; have := (hOO d (by obtain ⟨_, _, hk⟩ := hKO; exact hk.own.1)).1; omega))
                have hLI' := HLIk.out.act hKO.good hnt
                have hacN := actS_acts S ⟨6, nm, to, dat, on, om, dn⟩
                obtain ⟨rA, SA, hEA⟩ : ∃ rA SA, actS S ⟨6, nm, to, dat, on, om, dn⟩ = (rA, SA) := ⟨_, _, rfl⟩
                rw [hEA] at HC hLI' hacN
                simp only [opc] at HC hacN
                have HLI' := hd hLI'
                have HOO := hd hOO
                clear hEA hLI' hKO hnt hrow hlow hOO
                go_wp2_with fail
                rw [← HX.out]
                refine Calls.mono HC.out ?_
                rintro e wy ⟨rfl, hxy⟩
                have HLY := hd (HLX.out.nx HOO.out hxy)
                clear hxy HC
                go_wp2_with fail
                go_roundw
                case rel => exact ⟨k + 1, SA, by omega, by go_num, HLY.out, HLI'.out, by omega⟩
                case measure => simp [intOf]; omega
            · skip
              have hnt : ¬ touches ⟨kind, nm, to, dat, on, om, dn⟩ := by
                unfold touches
                rintro (⟨q, _⟩ | ⟨q | q, _⟩)
                · exact k4 q
                · exact k5 q
                · exact k6 q
              obtain ⟨O, hKO, hOO⟩ := HLX.out.dk
              have HC := hd (lact_is wx d O S ⟨kind, nm, to, dat, on, om, dn⟩ ua uc hKO (by omega) hrow (fun h0 b of nn cc q => by have := hlow h0 b of nn cc q; have := (hOO d (by obtain ⟨_, _, hk⟩ := hKO; exact hk.own.1)).1; omega))
              have hLI' := HLIk.out.act hKO.good hnt
              have hacN := actS_acts S ⟨kind, nm, to, dat, on, om, dn⟩
              obtain ⟨rA, SA, hEA⟩ : ∃ rA SA, actS S ⟨kind, nm, to, dat, on, om, dn⟩ = (rA, SA) := ⟨_, _, rfl⟩
              rw [hEA] at HC hLI' hacN
              simp only [opc] at HC hacN
              have HLI' := hd hLI'
              have HOO := hd hOO
              clear hEA hLI' hKO hnt hrow hlow hOO
              go_wp2_with fail
              rw [← HX.out]
              refine Calls.mono HC.out ?_
              rintro e wy ⟨rfl, hxy⟩
              have HLY := hd (HLX.out.nx HOO.out hxy)
              clear hxy HC
              go_wp2_with fail
              go_roundw
              case rel => exact ⟨k + 1, SA, by omega, by go_num, HLY.out, HLI'.out, by omega⟩
              case measure => simp [intOf]; omega
      · clear H2
        obtain ⟨O, hKO, hOO⟩ := HLk.out.dk
        have HCRA := hd (crash_is wr d O S keep hKO)
        obtain ⟨f9, hf9, hd9⟩ := crash_L HLIk.out hKO.good keep
        have hok9 := crash_ok keep S
        have hac9 : (crash keep S).acts = S.acts := rfl
        obtain ⟨S9, hS9⟩ : ∃ S9, S9 = crash keep S := ⟨_, rfl⟩
        rw [← hS9] at HCRA hf9 hok9 hac9
        have hac9' : S9.acts < 4611686018427387904 := by omega
        have HOO := hd hOO
        clear hKO hOO hS9 HLIk hac9
        go_wp2_with fail
        refine Calls.mono HCRA.out ?_
        rintro e w8 ⟨rfl, hx8⟩
        have hL8 := HLk.out.nx HOO.out hx8
        clear hx8 HOO HLk HCRA
        obtain ⟨O8, hK8, hO8⟩ := hL8.dk
        have HR9 := hd (read_is w8 d O8 S9 nmL 0 (n : Int) hK8 hac9')
        obtain ⟨hr10, _, _, hby10, _⟩ := read_L hok9 hf9 n
        rw [hby10, hd9] at HR9
        obtain ⟨r10, S10, hE10⟩ : ∃ r10 S10, read S9 nmL 0 (n : Int) = (r10, S10) := ⟨_, _, rfl⟩
        rw [hE10] at HR9 hr10
        simp only at hr10
        subst hr10
        have HL8 := hd hL8
        have HO8 := hd hO8
        clear hL8 hK8 hO8 hE10 hby10 hf9 hd9 hok9
        go_wp2_with fail
        refine Calls.mono HR9.out ?_
        rintro e w9 ⟨v9, rfl, hK9, ht9, hJ9, _, hl9⟩
        have hJ9' := hJ9 rfl
        have hL9 := HL8.out.nx HO8.out ⟨O8, hK9, ht9, fun b q => .inl q⟩
        have HSB := hd (same_is v9 (.slice aw n cw) f4.dat f4.dat w9 hJ9'.isB hL9.row.isB)
        rw [decide_eq_true rfl] at HSB
        obtain ⟨a9, c9, rfl, _⟩ := hJ9'.shape
        have HL9 := hd hL9
        clear hK9 ht9 hJ9 hl9 hJ9' hL9 HL8 HO8 HR9
        go_wp2_with fail
        refine Calls.mono HSB.out ?_
        rintro e w10 ⟨rfl, nn, rfl⟩
        have HL10 := hd (HL9.out.drewN nn)
        clear HL9 HSB
        go_wp2_with fail
        go_ret
        exact ⟨rfl, HL10.out.below⟩
  · go_wp2_with fail
    rw [← HW3.out]
    refine Calls.mono HAP.out ?_
    rintro e w4 ⟨rfl, hx4⟩
    have hU4 := up_nx HU3.out HO3.out hx4
    clear HU3 HO3 HW3 hx4 HAP
    obtain ⟨O4, hK4, hO4⟩ := hU4.dk
    have HSY := hd (sync_is w4 d O4 S4 nmL hK4 (by omega))
    obtain ⟨hr5, hok5, hf5⟩ := sync_L hok4 hf4
    have hac5 : (sync S4 nmL).2.acts ≤ 4 + l1.length := by
      have := actOf_acts S4 (Dk.look S4 nmL true) (gSync nmL) (fun _ => rfl)
      show (actOf S4 (Dk.look S4 nmL true) (gSync nmL)).2.acts ≤ _
      omega
    obtain ⟨r5, S5, hE5⟩ : ∃ r5 S5, sync S4 nmL = (r5, S5) := ⟨_, _, rfl⟩
    rw [hE5] at HSY hr5 hok5 hf5 hac5
    simp only at hr5 hok5 hf5 hac5
    subst hr5
    have HU4 := hd hU4
    have HO4 := hd hO4
    clear hU4 hK4 hO4 hE5
    go_wp2_with fail
    refine Calls.mono HSY.out ?_
    rintro e w5 ⟨rfl, hx5⟩
    have hU5 := up_nx HU4.out HO4.out hx5
    clear HU4 HO4 hx5 HSY
    obtain ⟨O5, hK5, hO5⟩ := hU5.dk
    obtain ⟨n, hn⟩ : ∃ n, n = f4.dat.length := ⟨_, rfl⟩
    have HSZ := hd (size_is w5 d O5 S5 nmL hK5)
    have hsz5 : sizeOf_ S5 nmL = n := by
      unfold sizeOf_
      rw [look_of hok5 hf5 true rfl, hf5, hn]; rfl
    rw [hsz5, look_of hok5 hf5 true rfl] at HSZ
    have HRD := hd (read_is w5 d O5 S5 nmL 0 (n : Int) hK5 (by omega))
    obtain ⟨hr6, hok6, hfs6, hby6, hac6⟩ := read_L hok5 hf5 n
    have hby6' : Dk.bytes S5 nmL 0 (n : Int) = f4.dat := by rw [hby6, hn]; exact List.take_length
    rw [hby6'] at HRD
    obtain ⟨r6, S6, hE6⟩ : ∃ r6 S6, read S5 nmL 0 (n : Int) = (r6, S6) := ⟨_, _, rfl⟩
    rw [hE6] at HRD hr6 hok6 hfs6 hac6
    simp only at hr6 hok6 hfs6 hac6
    subst hr6
    have hLI6 : LI n f4.dat S6 := ⟨hok6, { f4 with las := f4.dat.length }, by rw [hfs6]; exact hf5, by rw [hn]; exact Nat.le_refl _, by rw [hn]; exact List.take_length⟩
    have hmx5 : n ≤ 4194304 := by
      have h1 := hK5.good.cap
      have h2 := hK5.good.room
      have h3 := hK5.good.used
      have h4 : f4.dat.length ≤ tot S5.fs := get_len_le (f := { f4 with las := f4.dat.length }) hf5
      omega
    have HU5 := hd hU5
    have HO5 := hd hO5
    have HK5 := hd hK5
    have HNn := hd hn
    clear hU5 hK5 hO5 hE6 hsz5 hby6 hby6' hn
    go_wp2_with fail
    refine Calls.mono HSZ.out ?_
    rintro e w6 ⟨rfl, rfl⟩
    go_wp2_with fail
    refine Calls.mono HRD.out ?_
    rintro e w7 ⟨wv, rfl, hK7, ht7, hJ7, _, hl7⟩
    have hJ7' := hJ7 rfl
    obtain ⟨aw, cw, rfl, _⟩ := hJ7'.shape
    rw [← HNn.out] at hJ7' hl7 ⊢
    have hL7 : LL w.heap.size w d S6 (.slice aw n cw) f4.dat w7 := by
      have hb := ht7.below HO5.out HU5.out.size
      have hs := HU5.out.size
      have hs' := ht7.size
      refine ⟨⟨O5, hK7, fun b q => ⟨HO5.out b q, fun z => ?_⟩⟩, hJ7', ⟨hb.os.trans HU5.out.below.os, hb.tape.trans HU5.out.below.tape, hb.output.trans HU5.out.below.output, Nat.le_trans HU5.out.below.size hb.size, fun k hk => (hb.block k hk).trans (HU5.out.below.block k hk)⟩, by omega⟩
      have h1 := hl7 b z
      have h2 := HK5.out.olt b q
      omega
    have HL7 := hd hL7
    have HLI6 := hd hLI6
    have hac6' : S6.acts ≤ 5 + l1.length := by omega
    clear hK7 ht7 hJ7 hJ7' hl7 hL7 hLI6 HU5 HO5 HK5 HRD HSZ hok1 hok2 hok4 hok5 hok6 hf2 hf4 hf5 hfs6 hac1 hac2 hac4 hac5 hac6
    go_wp2_with fail
    go_loopw [14] (fun i wr => ∃ (k : Nat) (S : Ds), k ≤ l2.length ∧ i = .int .i64 (k : Int) ∧ LL w.heap.size w d S (.slice aw n cw) f4.dat wr ∧ LI n f4.dat S ∧ S.acts ≤ 5 + l1.length + k) (fun i _ => l2.length - (intOf i).toNat)
    case atStart => exact ⟨0, S6, by omega, rfl, HL7.out, HLI6.out, by omega⟩
    case round =>
      obtain ⟨k, S, hk, rfl, hLk, hLIk, hack⟩ := hrel
      have HLk := hd hLk
      have HLIk := hd hLIk
      clear hLk hLIk HL7 HLI6
      by_cases hlt : k < l2.length
      · rcases H2.out with ⟨rfl, _⟩ | ⟨sb, so, c, he, hlc, hcm, hsb, hop⟩
        · simp at hlt
        injection he with he1 he2 he3
        subst he1 he3
        obtain ⟨ua, uc, hO0⟩ := hop k hlt
        have hOk := hO0.keep HLk.out.below hsb
        clear hO0 hop
        have c0 : wr.cell? ⟨sb, so + k * 7, none⟩ = some (.int .i64 (l2.getD k op0).kind) := hOk.cell 0 _ rfl
        have d1 := hOk.cell 1 _ rfl
        have d2 := hOk.cell 2 _ rfl
        have d3 := hOk.cell 3 _ rfl
        have d4 := hOk.cell 4 _ rfl
        have d5 := hOk.cell 5 _ rfl
        have d6 := hOk.cell 6 _ rfl
        have hrow0 := hOk.row
        have hlow := hOk.low
        clear hOk
        generalize l2.getD k op0 = o at *
        obtain ⟨kind, nm, to, dat, on, om, dn⟩ := o
        simp only at c0 d1 d2 d3 d4 d5 d6 hrow0 hlow
        obtain ⟨wx, hwx⟩ : ∃ wx, wx = wr.alloc (.cells #[.int .i64 kind, .string nm, .string to, .slice ua dat.length uc, .int .i64 on, .int .i64 om, .bool dn] TO) := ⟨_, rfl⟩
        have hrow : IsB wx (.slice ua dat.length uc) dat := by rw [hwx]; exact hrow0.below ((Below.refl _ wr).alloc (Nat.le_refl _) _)
        have HLX : Hid (LL w.heap.size w d S (.slice aw n cw) f4.dat wx) := by rw [hwx]; exact HLk.out.alloc _
        have HX := hd hwx
        clear hwx hrow0 HLk
        by_cases k4 : kind = 4
        · subst k4
          by_cases hnm : nm = ({ data := #[108, 97, 115, 116, 115] } : ByteArray)
          · subst hnm
            clear hrow hlow
            go_wp2_with fail
            rw [← HX.out]
            refine ⟨⟨k + 1, S, by omega, rfl, HLX.out, HLIk.out, by omega⟩, ?_⟩
            simp [intOf]
            omega
          · have htl1 := neL hnm
            by_cases hto : to = ({ data := #[108, 97, 115, 116, 115] } : ByteArray)
            · subst hto
              clear hrow hlow
              go_wp2_with fail
              rw [← HX.out]
              refine ⟨⟨k + 1, S, by omega, rfl, HLX.out, HLIk.out, by omega⟩, ?_⟩
              simp [intOf]
              omega
            · have htl2 := neL hto
              have hnt : ¬ touches ⟨4, nm, to, dat, on, om, dn⟩ := by
                unfold touches
                rintro (⟨_, q | q⟩ | ⟨q | q, _⟩)
                · exact hnm q
                · exact hto q
                · cases q
                · cases q
              obtain ⟨O, hKO, hOO⟩ := HLX.out.dk
              have HC := hd (lact_is wx d O S ⟨4, nm, to, dat, on, om, dn⟩ ua uc hKO (by omega) hrow (fun h0 b of nn cc q => by have := hlow h0 b of nn cc q; have := (hOO d (by obtain ⟨_, _, hk⟩ := hKO; exact hk.own.1)).1; omega))
              have hLI' := HLIk.out.act hKO.good hnt
              have hacN := actS_acts S ⟨4, nm, to, dat, on, om, dn⟩
              obtain ⟨rA, SA, hEA⟩ : ∃ rA SA, actS S ⟨4, nm, to, dat, on, om, dn⟩ = (rA, SA) := ⟨_, _, rfl⟩
              rw [hEA] at HC hLI' hacN
              simp only [opc] at HC hacN
              have HLI' := hd hLI'
              have HOO := hd hOO
              clear hEA hLI' hKO hnt hrow hlow hOO
              go_wp2_with fail
              rw [← HX.out]
              refine Calls.mono HC.out ?_
              rintro e wy ⟨rfl, hxy⟩
              have HLY := hd (HLX.out.nx HOO.out hxy)
              clear hxy HC
              go_wp2_with fail
              go_roundw
              case rel => exact ⟨k + 1, SA, by omega, by go_num, HLY.out, HLI'.out, by omega⟩
              case measure => simp [intOf]; omega
        · by_cases k5 : kind = 5
          · subst k5
            clear k4
            by_cases hnm : nm = ({ data := #[108, 97, 115, 116, 115] } : ByteArray)
            · subst hnm
              clear hrow hlow
              go_wp2_with fail
              rw [← HX.out]
              refine ⟨⟨k + 1, S, by omega, rfl, HLX.out, HLIk.out, by omega⟩, ?_⟩
              simp [intOf]
              omega
            · have htl1 := neL hnm
              have hnt : ¬ touches ⟨5, nm, to, dat, on, om, dn⟩ := by
                unfold touches
                rintro (⟨q, _⟩ | ⟨_, q⟩)
                · cases q
                · exact hnm q
              obtain ⟨O, hKO, hOO⟩ := HLX.out.dk
              have HC := hd (lact_is wx d O S ⟨5, nm, to, dat, on, om, dn⟩ ua uc hKO (by omega) hrow (fun h0 b of nn cc q => by have := hlow h0 b of nn cc q; have := (hOO d (by obtain ⟨_, _, hk⟩ := hKO; exact hk.own.1)).1; omega))
              have hLI' := HLIk.out.act hKO.good hnt
              have hacN := actS_acts S ⟨5, nm, to, dat, on, om, dn⟩
              obtain ⟨rA, SA, hEA⟩ : ∃ rA SA, actS S ⟨5, nm, to, dat, on, om, dn⟩ = (rA, SA) := ⟨_, _, rfl⟩
              rw [hEA] at HC hLI' hacN
              simp only [opc] at HC hacN
              have HLI' := hd hLI'
              have HOO := hd hOO
              clear hEA hLI' hKO hnt hrow hlow hOO
              go_wp2_with fail
              rw [← HX.out]
              refine Calls.mono HC.out ?_
              rintro e wy ⟨rfl, hxy⟩
              have HLY := hd (HLX.out.nx HOO.out hxy)
              clear hxy HC
              go_wp2_with fail
              go_roundw
              case rel => exact ⟨k + 1, SA, by omega, by go_num, HLY.out, HLI'.out, by omega⟩
              case measure => simp [intOf]; omega
          · by_cases k6 : kind = 6
            · subst k6
              clear k4 k5
              by_cases hnm : nm = ({ data := #[108, 97, 115, 116, 115] } : ByteArray)
              · subst hnm
                clear hrow hlow
                go_wp2_with fail
                rw [← HX.out]
                refine ⟨⟨k + 1, S, by omega, rfl, HLX.out, HLIk.out, by omega⟩, ?_⟩
                simp [intOf]
                omega
              · have htl1 := neL hnm
                have hnt : ¬ touches ⟨6, nm, to, dat, on, om, dn⟩ := by
                  unfold touches
                  rintro (⟨q, _⟩ | ⟨_, q⟩)
                  · cases q
                  · exact hnm q
                obtain ⟨O, hKO, hOO⟩ := HLX.out.dk
                have HC := hd (lact_is wx d O S ⟨6, nm, to, dat, on, om, dn⟩ ua uc hKO (by omega) hrow (fun h0 b of nn cc q => by have := hlow h0 b of nn cc q; have := (hOO d (by obtain ⟨_, _, hk⟩ := hKO; exact hk.own.1)).1; omega))
                have hLI' := HLIk.out.act hKO.good hnt
                have hacN := actS_acts S ⟨6, nm, to, dat, on, om, dn⟩
                obtain ⟨rA, SA, hEA⟩ : ∃ rA SA, actS S ⟨6, nm, to, dat, on, om, dn⟩ = (rA, SA) := ⟨_, _, rfl⟩
                rw [hEA] at HC hLI' hacN
                simp only [opc] at HC hacN
                have HLI' := hd hLI'
                have HOO := hd hOO
                clear hEA hLI' hKO hnt hrow hlow hOO
                go_wp2_with fail
                rw [← HX.out]
                refine Calls.mono HC.out ?_
                rintro e wy ⟨rfl, hxy⟩
                have HLY := hd (HLX.out.nx HOO.out hxy)
                clear hxy HC
                go_wp2_with fail
                go_roundw
                case rel => exact ⟨k + 1, SA, by omega, by go_num, HLY.out, HLI'.out, by omega⟩
                case measure => simp [intOf]; omega
            · skip
              have hnt : ¬ touches ⟨kind, nm, to, dat, on, om, dn⟩ := by
                unfold touches
                rintro (⟨q, _⟩ | ⟨q | q, _⟩)
                · exact k4 q
                · exact k5 q
                · exact k6 q
              obtain ⟨O, hKO, hOO⟩ := HLX.out.dk
              have HC := hd (lact_is wx d O S ⟨kind, nm, to, dat, on, om, dn⟩ ua uc hKO (by omega) hrow (fun h0 b of nn cc q => by have := hlow h0 b of nn cc q; have := (hOO d (by obtain ⟨_, _, hk⟩ := hKO; exact hk.own.1)).1; omega))
              have hLI' := HLIk.out.act hKO.good hnt
              have hacN := actS_acts S ⟨kind, nm, to, dat, on, om, dn⟩
              obtain ⟨rA, SA, hEA⟩ : ∃ rA SA, actS S ⟨kind, nm, to, dat, on, om, dn⟩ = (rA, SA) := ⟨_, _, rfl⟩
              rw [hEA] at HC hLI' hacN
              simp only [opc] at HC hacN
              have HLI' := hd hLI'
              have HOO := hd hOO
              clear hEA hLI' hKO hnt hrow hlow hOO
              go_wp2_with fail
              rw [← HX.out]
              refine Calls.mono HC.out ?_
              rintro e wy ⟨rfl, hxy⟩
              have HLY := hd (HLX.out.nx HOO.out hxy)
              clear hxy HC
              go_wp2_with fail
              go_roundw
              case rel => exact ⟨k + 1, SA, by omega, by go_num, HLY.out, HLI'.out, by omega⟩
              case measure => simp [intOf]; omega
      · clear H2
        obtain ⟨O, hKO, hOO⟩ := HLk.out.dk
        have HCRA := hd (crash_is wr d O S keep hKO)
        obtain ⟨f9, hf9, hd9⟩ := crash_L HLIk.out hKO.good keep
        have hok9 := crash_ok keep S
        have hac9 : (crash keep S).acts = S.acts := rfl
        obtain ⟨S9, hS9⟩ : ∃ S9, S9 = crash keep S := ⟨_, rfl⟩
        rw [← hS9] at HCRA hf9 hok9 hac9
        have hac9' : S9.acts < 4611686018427387904 := by omega
        have HOO := hd hOO
        clear hKO hOO hS9 HLIk hac9
        go_wp2_with fail
        refine Calls.mono HCRA.out ?_
        rintro e w8 ⟨rfl, hx8⟩
        have hL8 := HLk.out.nx HOO.out hx8
        clear hx8 HOO HLk HCRA
        obtain ⟨O8, hK8, hO8⟩ := hL8.dk
        have HR9 := hd (read_is w8 d O8 S9 nmL 0 (n : Int) hK8 hac9')
        obtain ⟨hr10, _, _, hby10, _⟩ := read_L hok9 hf9 n
        rw [hby10, hd9] at HR9
        obtain ⟨r10, S10, hE10⟩ : ∃ r10 S10, read S9 nmL 0 (n : Int) = (r10, S10) := ⟨_, _, rfl⟩
        rw [hE10] at HR9 hr10
        simp only at hr10
        subst hr10
        have HL8 := hd hL8
        have HO8 := hd hO8
        clear hL8 hK8 hO8 hE10 hby10 hf9 hd9 hok9
        go_wp2_with fail
        refine Calls.mono HR9.out ?_
        rintro e w9 ⟨v9, rfl, hK9, ht9, hJ9, _, hl9⟩
        have hJ9' := hJ9 rfl
        have hL9 := HL8.out.nx HO8.out ⟨O8, hK9, ht9, fun b q => .inl q⟩
        have HSB := hd (same_is v9 (.slice aw n cw) f4.dat f4.dat w9 hJ9'.isB hL9.row.isB)
        rw [decide_eq_true rfl] at HSB
        obtain ⟨a9, c9, rfl, _⟩ := hJ9'.shape
        have HL9 := hd hL9
        clear hK9 ht9 hJ9 hl9 hJ9' hL9 HL8 HO8 HR9
        go_wp2_with fail
        refine Calls.mono HSB.out ?_
        rintro e w10 ⟨rfl, nn, rfl⟩
        have HL10 := hd (HL9.out.drewN nn)
        clear HL9 HSB
        go_wp2_with fail
        go_ret
        exact ⟨rfl, HL10.out.below⟩
end Dlw
end Go.Proofs.Ytiooodhgndklkaa
