/-
  PROVED: for every text b and every cut, the Go law CrcParts answers true and changes nothing that came in: it does not matter in which two parts a text is summed, nor how. No condition.
-/
import Derived.Test.YtfodnbbpkonfpaaL0
namespace Go.Proofs.Ytfodnbbpkonfpaa
open Go.ChangeShapes Go.WideShapes Go.ChangeAt Go.RowKit
namespace Parts
set_option maxRecDepth 100000 in
set_option maxHeartbeats 3000000 in
theorem walkN (b off c m : Nat) (l : List Nat) (cut : Int) (w : World) (hI : IsB w (.slice (some ⟨b, off, none⟩) l.length c) l) (hm : m ≤ l.length) (h0 : 0 < l.length) (hc : c ≤ 140737488351232) (hlc : l.length ≤ c) (hne : ¬ c = m) (hcut : cut.tmod ((l.length : Int) + 1) = (m : Int)) :
    Calls Try.prog 6 #[.slice (some ⟨b, off, none⟩) l.length c, .int .i64 cut] w fun e w' => e = .returned (.bool true) ∧ Below w.heap.size w w' := by
  have HI := hd hI
  clear hI
  go_enter Try.func6, Try.ntmps6
  go_wp2_with fail
  refine (known_any _).mono ?_
  rintro e w1 ⟨rfl, hb1⟩
  have HB1 : Hid (Below w.heap.size w w1) := hb1
  clear hb1
  go_wp2_with fail
  refine (new_any _).mono ?_
  rintro e w2 ⟨rfl, hT, hb2⟩
  have HT := hd hT
  have HB2 : Hid (Below w.heap.size w w2) := HB1.out.trans (hb2.mono HB1.out.size)
  clear hb2 HB1 hT
  go_wp2_with fail
  refine Calls.mono (sum_one w2 w2.heap.size rfl _ l (HI.out.below HB2.out)) ?_
  rintro e w3 ⟨rfl, hb3⟩
  have HB3 : Hid (Below w.heap.size w w3) := HB2.out.trans (hb3.mono HB2.out.size)
  have HT3 := hd (HT.out.below HT.out.lt hb3)
  have HI3 := hd (HI.out.below HB3.out)
  have HA := hd (HI3.out.take m hm)
  have HC := hd (HI3.out.drop m hm (off + m) (l.length - m) (c - m) (fun _ => rfl) rfl rfl)
  have ltk := Crc.go_lt 0 (l.take m)
  have HG : Hid (Crc.go (Crc.go 0 (l.take m)) (l.drop m) = Crc.go 0 l) := by
    show Crc.go (Crc.go 0 (l.take m)) (l.drop m) = Crc.go 0 l
    rw [← Crc.go_append _ (byt_take HI.out.1 m), List.take_append_drop]
  have HJ : Hid (∀ U : World, Calls Try.prog 16 #[.int .u32 ((Crc.go 0 (l.take m) : Nat) : Int), .int .u32 ((Crc.go 0 (l.drop m) : Nat) : Int), .int .i64 ((l.length : Int) - (m : Int))] U fun e w' => e = .returned (.tuple #[.int .u32 ((Crc.go 0 l : Nat) : Int), .int .i64 0]) ∧ w' = U) := by
    intro U
    have h := join_any (Crc.go 0 (l.take m)) (Crc.go 0 (l.drop m)) (l.length - m) U ltk (Crc.go_lt 0 _) (by unfold maxLen; omega)
    rw [show (((l.length - m : Nat)) : Int) = (l.length : Int) - (m : Int) by omega] at h
    have e := Crc.go_join ltk (l := l.drop m) (byt_drop HI.out.1 m)
    rw [HG.out, List.length_drop] at e
    rw [← e] at h
    exact h
  clear hb3 HB2 HT
  go_wp2_with fail
  go_quiet (first | (go_at_call 14; exact Calls.quiet_of_same (byTable_zero _ _ _ _ (HT3.out.drewN _) (HA.out.drewN _))) | (go_at_call 13; exact Calls.quiet_of (byEight_is _ _ _ _ _ ltk (HT3.out.drewN _) (HC.out.drewN _))))
  rw [HG.out]
  go_wp2_with fail
  obtain ⟨w4, hw4⟩ : ∃ w4, w4 = w3.drewN nq := ⟨_, rfl⟩
  rw [← hw4]
  have HT4 : Hid (Tab w4 w1.heap.size) := by rw [hw4]; exact HT3.out.drewN nq
  have HA4 := hd (HA.out.drewN nq)
  have HC4 := hd (HC.out.drewN nq)
  have HB4 := hd (below_drewN HB3.out nq)
  rw [← hw4] at HA4 HC4 HB4
  clear hw4 HA HC HB3 HI3 HT3
  go_quiet (first | (go_at_call 13; exact Calls.quiet_of (byEight_zero _ _ _ _ (HT4.out.drewN _) (HA4.out.drewN _))) | (go_at_call 15; exact Calls.quiet_of_same (bitwise_is _ _ _ _ ltk (HC4.out.drewN _))))
  rw [HG.out]
  go_wp2_with fail
  obtain ⟨w5, hw5⟩ : ∃ w5, w5 = w4.drewN nq := ⟨_, rfl⟩
  rw [← hw5]
  have HA5 := hd (HA4.out.drewN nq)
  have HC5 := hd (HC4.out.drewN nq)
  have HB5 := hd (below_drewN HB4.out nq)
  rw [← hw5] at HA5 HC5 HB5
  clear hw5 HA4 HC4 HB4 HT4
  have HBX : Hid (Below w5.heap.size w5 w5) := Below.refl _ _
  go_region_with (first | (go_at_call 10; (refine Calls.mono (sum_at _ _ (.slice (some ⟨b, off, none⟩) m c) (l.take m) ?gcell ?glt ?gisb) ?_; (case gcell => go_simp); (case glt => (have := HBX.out.size; first | omega | (simp; try omega))); (case gisb => exact HA5.out.below (by repeat (first | exact HBX.out | apply Below.drew | (refine Below.alloc ?_ (by have := HBX.out.size; first | omega | (simp; try omega)) _)))); rintro e wn ⟨rfl, hbn⟩; have hcn := bcell hbn; have hnew : Hid (Below w5.heap.size w5 wn) := Below.trans (by repeat (first | exact HBX.out | apply Below.drew | (refine Below.alloc ?_ (by have := HBX.out.size; first | omega | (simp; try omega)) _))) (hbn.mono (by have := HBX.out.size; first | omega | (simp; try omega))); (try simp at hcn); have hzn := hbn.size; (try simp at hzn); clear hbn HBX; have HBX := hnew; clear hnew)) | (go_at_call 10; (refine Calls.mono (sum_at _ _ (.slice (some ⟨b, off + m, none⟩) (l.length - m) (c - m)) (l.drop m) ?gcell ?glt ?gisb) ?_; (case gcell => go_simp); (case glt => (have := HBX.out.size; first | omega | (simp; try omega))); (case gisb => exact HC5.out.below (by repeat (first | exact HBX.out | apply Below.drew | (refine Below.alloc ?_ (by have := HBX.out.size; first | omega | (simp; try omega)) _)))); rintro e wn ⟨rfl, hbn⟩; have hcn := bcell hbn; have hnew : Hid (Below w5.heap.size w5 wn) := Below.trans (by repeat (first | exact HBX.out | apply Below.drew | (refine Below.alloc ?_ (by have := HBX.out.size; first | omega | (simp; try omega)) _))) (hbn.mono (by have := HBX.out.size; first | omega | (simp; try omega))); (try simp at hcn); have hzn := hbn.size; (try simp at hzn); clear hbn HBX; have HBX := hnew; clear hnew)) | (go_at_call 16; refine Calls.mono (HJ.out _) ?_; rintro e w8 ⟨rfl, rfl⟩))
  all_goals
    clear HJ
    go_wp2_with fail
    go_region_with (go_at_call 10; refine Calls.mono (sum_at2 _ _ (.slice (some ⟨b, off, none⟩) m c) (.slice (some ⟨b, off + m, none⟩) (l.length - m) (c - m)) (l.take m) (l.drop m) ?gca ?gcb ?glt ?ga ?gb) ?_; (case gca => go_simp); (case gcb => go_simp); (case glt => simp); (case ga => exact HA5.out.below (by repeat (first | exact HBX.out | apply Below.drew | (refine Below.alloc ?_ (by have := HBX.out.size; first | omega | (simp; try omega)) _)))); (case gb => exact HC5.out.below (by repeat (first | exact HBX.out | apply Below.drew | (refine Below.alloc ?_ (by have := HBX.out.size; first | omega | (simp; try omega)) _)))); rintro e w9 ⟨rfl, hb9⟩)
    try rw [List.take_append_drop]
    have HB9 : Hid (Below w5.heap.size w5 w9) := Below.trans (by repeat (first | exact HBX.out | apply Below.drew | (refine Below.alloc ?_ (by have := HBX.out.size; first | omega | (simp; try omega)) _))) (hb9.mono (by have := HBX.out.size; first | omega | (simp; try omega)))
    clear hb9
    go_wp2
    go_ret
    exact ⟨rfl, HB5.out.trans (HB9.out.mono HB5.out.size)⟩
set_option maxRecDepth 100000 in
set_option maxHeartbeats 3000000 in
theorem walkE (b off : Nat) (l : List Nat) (cut : Int) (w : World) (hI : IsB w (.slice (some ⟨b, off, none⟩) l.length l.length) l) (h0 : 0 < l.length) (hc : l.length ≤ 140737488351232) (hcut : cut.tmod ((l.length : Int) + 1) = (l.length : Int)) :
    Calls Try.prog 6 #[.slice (some ⟨b, off, none⟩) l.length l.length, .int .i64 cut] w fun e w' => e = .returned (.bool true) ∧ Below w.heap.size w w' := by
  have HI := hd hI
  clear hI
  go_enter Try.func6, Try.ntmps6
  go_wp2_with fail
  refine (known_any _).mono ?_
  rintro e w1 ⟨rfl, hb1⟩
  have HB1 : Hid (Below w.heap.size w w1) := hb1
  clear hb1
  go_wp2_with fail
  refine (new_any _).mono ?_
  rintro e w2 ⟨rfl, hT, hb2⟩
  have HT := hd hT
  have HB2 : Hid (Below w.heap.size w w2) := HB1.out.trans (hb2.mono HB1.out.size)
  clear hb2 HB1 hT
  go_wp2_with fail
  refine Calls.mono (sum_one w2 w2.heap.size rfl _ l (HI.out.below HB2.out)) ?_
  rintro e w3 ⟨rfl, hb3⟩
  have HB3 : Hid (Below w.heap.size w w3) := HB2.out.trans (hb3.mono HB2.out.size)
  have HT3 := hd (HT.out.below HT.out.lt hb3)
  have HI3 := hd (HI.out.below HB3.out)
  have HA := hd (HI3.out)
  have HC := hd (isB_zero w3 (some ⟨b, off, none⟩) 0)
  have ltk := Crc.go_lt 0 (l)
  have HG : Hid (Crc.go (Crc.go 0 (l)) ([]) = Crc.go 0 l) := by
    show Crc.go (Crc.go 0 (l)) ([]) = Crc.go 0 l
    rw [Crc.go_nil (Crc.go_lt 0 l)]
  have HJ : Hid (∀ U : World, Calls Try.prog 16 #[.int .u32 ((Crc.go 0 (l) : Nat) : Int), .int .u32 ((Crc.go 0 ([]) : Nat) : Int), .int .i64 (0)] U fun e w' => e = .returned (.tuple #[.int .u32 ((Crc.go 0 l : Nat) : Int), .int .i64 0]) ∧ w' = U) := by
    intro U
    have h := join_any (Crc.go 0 (l)) (Crc.go 0 ([])) (0) U ltk (Crc.go_lt 0 _) (by unfold maxLen; omega)
    rw [show (((0 : Nat)) : Int) = 0 by omega] at h
    have e := Crc.go_join ltk (l := []) (fun x hx => by simp at hx)
    rw [HG.out, List.length_nil] at e
    rw [← e] at h
    exact h
  clear hb3 HB2 HT
  go_wp2_with fail
  go_quiet (first | (go_at_call 14; exact Calls.quiet_of_same (byTable_zero _ _ _ _ (HT3.out.drewN _) (HA.out.drewN _))) | (go_at_call 13; exact Calls.quiet_of (byEight_is _ _ _ _ _ ltk (HT3.out.drewN _) (HC.out.drewN _))))
  rw [HG.out]
  go_wp2_with fail
  obtain ⟨w4, hw4⟩ : ∃ w4, w4 = w3.drewN nq := ⟨_, rfl⟩
  rw [← hw4]
  have HT4 : Hid (Tab w4 w1.heap.size) := by rw [hw4]; exact HT3.out.drewN nq
  have HA4 := hd (HA.out.drewN nq)
  have HC4 := hd (HC.out.drewN nq)
  have HB4 := hd (below_drewN HB3.out nq)
  rw [← hw4] at HA4 HC4 HB4
  clear hw4 HA HC HB3 HI3 HT3
  go_quiet (first | (go_at_call 13; exact Calls.quiet_of (byEight_zero _ _ _ _ (HT4.out.drewN _) (HA4.out.drewN _))) | (go_at_call 15; exact Calls.quiet_of_same (bitwise_is _ _ _ _ ltk (HC4.out.drewN _))))
  rw [HG.out]
  go_wp2_with fail
  obtain ⟨w5, hw5⟩ : ∃ w5, w5 = w4.drewN nq := ⟨_, rfl⟩
  rw [← hw5]
  have HA5 := hd (HA4.out.drewN nq)
  have HC5 := hd (HC4.out.drewN nq)
  have HB5 := hd (below_drewN HB4.out nq)
  rw [← hw5] at HA5 HC5 HB5
  clear hw5 HA4 HC4 HB4 HT4
  have HBX : Hid (Below w5.heap.size w5 w5) := Below.refl _ _
  go_region_with (first | (go_at_call 10; (refine Calls.mono (sum_at _ _ (.slice (some ⟨b, off, none⟩) l.length l.length) (l) ?gcell ?glt ?gisb) ?_; (case gcell => go_simp); (case glt => (have := HBX.out.size; first | omega | (simp; try omega))); (case gisb => exact HA5.out.below (by repeat (first | exact HBX.out | apply Below.drew | (refine Below.alloc ?_ (by have := HBX.out.size; first | omega | (simp; try omega)) _)))); rintro e wn ⟨rfl, hbn⟩; have hcn := bcell hbn; have hnew : Hid (Below w5.heap.size w5 wn) := Below.trans (by repeat (first | exact HBX.out | apply Below.drew | (refine Below.alloc ?_ (by have := HBX.out.size; first | omega | (simp; try omega)) _))) (hbn.mono (by have := HBX.out.size; first | omega | (simp; try omega))); (try simp at hcn); have hzn := hbn.size; (try simp at hzn); clear hbn HBX; have HBX := hnew; clear hnew)) | (go_at_call 10; (refine Calls.mono (sum_at _ _ (.slice (some ⟨b, off, none⟩) 0 0) ([]) ?gcell ?glt ?gisb) ?_; (case gcell => go_simp); (case glt => (have := HBX.out.size; first | omega | (simp; try omega))); (case gisb => exact HC5.out.below (by repeat (first | exact HBX.out | apply Below.drew | (refine Below.alloc ?_ (by have := HBX.out.size; first | omega | (simp; try omega)) _)))); rintro e wn ⟨rfl, hbn⟩; have hcn := bcell hbn; have hnew : Hid (Below w5.heap.size w5 wn) := Below.trans (by repeat (first | exact HBX.out | apply Below.drew | (refine Below.alloc ?_ (by have := HBX.out.size; first | omega | (simp; try omega)) _))) (hbn.mono (by have := HBX.out.size; first | omega | (simp; try omega))); (try simp at hcn); have hzn := hbn.size; (try simp at hzn); clear hbn HBX; have HBX := hnew; clear hnew)) | (go_at_call 16; refine Calls.mono (HJ.out _) ?_; rintro e w8 ⟨rfl, rfl⟩))
  all_goals
    clear HJ
    go_wp2_with fail
    go_region_with (go_at_call 10; refine Calls.mono (sum_at2 _ _ (.slice (some ⟨b, off, none⟩) l.length l.length) (.slice (some ⟨b, off, none⟩) 0 0) (l) ([]) ?gca ?gcb ?glt ?ga ?gb) ?_; (case gca => go_simp); (case gcb => go_simp); (case glt => simp); (case ga => exact HA5.out.below (by repeat (first | exact HBX.out | apply Below.drew | (refine Below.alloc ?_ (by have := HBX.out.size; first | omega | (simp; try omega)) _)))); (case gb => exact HC5.out.below (by repeat (first | exact HBX.out | apply Below.drew | (refine Below.alloc ?_ (by have := HBX.out.size; first | omega | (simp; try omega)) _)))); rintro e w9 ⟨rfl, hb9⟩)
    try rw [List.append_nil]
    have HB9 : Hid (Below w5.heap.size w5 w9) := Below.trans (by repeat (first | exact HBX.out | apply Below.drew | (refine Below.alloc ?_ (by have := HBX.out.size; first | omega | (simp; try omega)) _))) (hb9.mono (by have := HBX.out.size; first | omega | (simp; try omega)))
    clear hb9
    go_wp2
    go_ret
    exact ⟨rfl, HB5.out.trans (HB9.out.mono HB5.out.size)⟩
set_option maxRecDepth 100000 in
set_option maxHeartbeats 3000000 in
theorem walkZ (a : Option Addr) (c : Nat) (cut : Int) (w : World) :
    Calls Try.prog 6 #[.slice a 0 c, .int .i64 cut] w fun e w' => e = .returned (.bool true) ∧ Below w.heap.size w w' := by
  have HI := hd (isB_zero w a c)
  go_enter Try.func6, Try.ntmps6
  go_wp2_with fail
  refine (known_any _).mono ?_
  rintro e w1 ⟨rfl, hb1⟩
  have HB1 : Hid (Below w.heap.size w w1) := hb1
  clear hb1
  go_wp2_with fail
  refine (new_any _).mono ?_
  rintro e w2 ⟨rfl, hT, hb2⟩
  have HT := hd hT
  have HB2 : Hid (Below w.heap.size w w2) := HB1.out.trans (hb2.mono HB1.out.size)
  clear hb2 HB1 hT
  go_wp2_with fail
  refine Calls.mono (sum_one w2 w2.heap.size rfl _ ([] : List Nat) (HI.out.below HB2.out)) ?_
  rintro e w3 ⟨rfl, hb3⟩
  have HB3 : Hid (Below w.heap.size w w3) := HB2.out.trans (hb3.mono HB2.out.size)
  have HT3 := hd (HT.out.below HT.out.lt hb3)
  have HI3 := hd (HI.out.below HB3.out)
  have HA := hd (HI3.out)
  have HC := hd (HI3.out)
  have ltk := Crc.go_lt 0 (([] : List Nat))
  have HG : Hid (Crc.go (Crc.go 0 (([] : List Nat))) (([] : List Nat)) = Crc.go 0 ([] : List Nat)) := by
    show Crc.go (Crc.go 0 (([] : List Nat))) (([] : List Nat)) = Crc.go 0 ([] : List Nat)
    rw [Crc.go_nil (Crc.go_lt 0 _)]
  have HJ : Hid (∀ U : World, Calls Try.prog 16 #[.int .u32 ((Crc.go 0 (([] : List Nat)) : Nat) : Int), .int .u32 ((Crc.go 0 (([] : List Nat)) : Nat) : Int), .int .i64 (0)] U fun e w' => e = .returned (.tuple #[.int .u32 ((Crc.go 0 ([] : List Nat) : Nat) : Int), .int .i64 0]) ∧ w' = U) := by
    intro U
    have h := join_any (Crc.go 0 (([] : List Nat))) (Crc.go 0 (([] : List Nat))) (0) U ltk (Crc.go_lt 0 _) (by unfold maxLen; omega)
    rw [show (((0 : Nat)) : Int) = 0 by omega] at h
    have e := Crc.go_join ltk (l := ([] : List Nat)) (fun x hx => by simp at hx)
    rw [HG.out, List.length_nil] at e
    rw [← e] at h
    exact h
  clear hb3 HB2 HT
  go_wp2_with fail
  go_quiet (first | (go_at_call 14; exact Calls.quiet_of_same (byTable_zero _ _ _ _ (HT3.out.drewN _) (HA.out.drewN _))) | (go_at_call 13; exact Calls.quiet_of (byEight_is _ _ _ _ _ ltk (HT3.out.drewN _) (HC.out.drewN _))))
  rw [HG.out]
  go_wp2_with fail
  obtain ⟨w4, hw4⟩ : ∃ w4, w4 = w3.drewN nq := ⟨_, rfl⟩
  rw [← hw4]
  have HT4 : Hid (Tab w4 w1.heap.size) := by rw [hw4]; exact HT3.out.drewN nq
  have HA4 := hd (HA.out.drewN nq)
  have HC4 := hd (HC.out.drewN nq)
  have HB4 := hd (below_drewN HB3.out nq)
  rw [← hw4] at HA4 HC4 HB4
  clear hw4 HA HC HB3 HI3 HT3
  go_quiet (first | (go_at_call 13; exact Calls.quiet_of (byEight_zero _ _ _ _ (HT4.out.drewN _) (HA4.out.drewN _))) | (go_at_call 15; exact Calls.quiet_of_same (bitwise_is _ _ _ _ ltk (HC4.out.drewN _))))
  rw [HG.out]
  go_wp2_with fail
  obtain ⟨w5, hw5⟩ : ∃ w5, w5 = w4.drewN nq := ⟨_, rfl⟩
  rw [← hw5]
  have HA5 := hd (HA4.out.drewN nq)
  have HC5 := hd (HC4.out.drewN nq)
  have HB5 := hd (below_drewN HB4.out nq)
  rw [← hw5] at HA5 HC5 HB5
  clear hw5 HA4 HC4 HB4 HT4
  have HBX : Hid (Below w5.heap.size w5 w5) := Below.refl _ _
  go_region_with (first | (go_at_call 10; (refine Calls.mono (sum_at _ _ (.slice a 0 c) (([] : List Nat)) ?gcell ?glt ?gisb) ?_; (case gcell => go_simp); (case glt => (have := HBX.out.size; first | omega | (simp; try omega))); (case gisb => exact HA5.out.below (by repeat (first | exact HBX.out | apply Below.drew | (refine Below.alloc ?_ (by have := HBX.out.size; first | omega | (simp; try omega)) _)))); rintro e wn ⟨rfl, hbn⟩; have hcn := bcell hbn; have hnew : Hid (Below w5.heap.size w5 wn) := Below.trans (by repeat (first | exact HBX.out | apply Below.drew | (refine Below.alloc ?_ (by have := HBX.out.size; first | omega | (simp; try omega)) _))) (hbn.mono (by have := HBX.out.size; first | omega | (simp; try omega))); (try simp at hcn); have hzn := hbn.size; (try simp at hzn); clear hbn HBX; have HBX := hnew; clear hnew)) | (go_at_call 10; (refine Calls.mono (sum_at _ _ (.slice a 0 c) (([] : List Nat)) ?gcell ?glt ?gisb) ?_; (case gcell => go_simp); (case glt => (have := HBX.out.size; first | omega | (simp; try omega))); (case gisb => exact HC5.out.below (by repeat (first | exact HBX.out | apply Below.drew | (refine Below.alloc ?_ (by have := HBX.out.size; first | omega | (simp; try omega)) _)))); rintro e wn ⟨rfl, hbn⟩; have hcn := bcell hbn; have hnew : Hid (Below w5.heap.size w5 wn) := Below.trans (by repeat (first | exact HBX.out | apply Below.drew | (refine Below.alloc ?_ (by have := HBX.out.size; first | omega | (simp; try omega)) _))) (hbn.mono (by have := HBX.out.size; first | omega | (simp; try omega))); (try simp at hcn); have hzn := hbn.size; (try simp at hzn); clear hbn HBX; have HBX := hnew; clear hnew)) | (go_at_call 16; refine Calls.mono (HJ.out _) ?_; rintro e w8 ⟨rfl, rfl⟩))
  all_goals
    clear HJ
    go_wp2_with fail
    go_region_with (go_at_call 10; refine Calls.mono (sum_at2 _ _ (.slice a 0 c) (.slice a 0 c) (([] : List Nat)) (([] : List Nat)) ?gca ?gcb ?glt ?ga ?gb) ?_; (case gca => go_simp); (case gcb => go_simp); (case glt => simp); (case ga => exact HA5.out.below (by repeat (first | exact HBX.out | apply Below.drew | (refine Below.alloc ?_ (by have := HBX.out.size; first | omega | (simp; try omega)) _)))); (case gb => exact HC5.out.below (by repeat (first | exact HBX.out | apply Below.drew | (refine Below.alloc ?_ (by have := HBX.out.size; first | omega | (simp; try omega)) _)))); rintro e w9 ⟨rfl, hb9⟩)
    try rw [List.append_nil]
    have HB9 : Hid (Below w5.heap.size w5 w9) := Below.trans (by repeat (first | exact HBX.out | apply Below.drew | (refine Below.alloc ?_ (by have := HBX.out.size; first | omega | (simp; try omega)) _))) (hb9.mono (by have := HBX.out.size; first | omega | (simp; try omega)))
    clear hb9
    go_wp2
    go_ret
    exact ⟨rfl, HB5.out.trans (HB9.out.mono HB5.out.size)⟩
end Parts
end Go.Proofs.Ytfodnbbpkonfpaa
