/-
  A writer on a disk, step by step, for SegmentLasts.
  SegmentLasts' walk.
  A SLICE OF LINES AS A PARAMETER.
-/
import Derived.Test.YtngnbkdfbmhndaaGreatMbe
import Derived.Deep.Matrix
namespace Go.Proofs.YtngnbkdfbmhndaaGreat
open Go.RowKit Go.Maps Go.Sort
namespace Sg
open Vt Dk
/-- what stands in memory: a writer on a disk, above B -/
def Lw (B : Nat) (w : World) (b d : Nat) (X : Ws × Ds) (wq : World) : Prop := (∃ O, WK wq b d O X.1 X.2 ∧ ∀ x, O x → B ≤ x) ∧ Below B w wq ∧ B ≤ b ∧ B ≤ wq.heap.size
theorem Lw.bels {B : Nat} {w : World} {b d : Nat} {X : Ws × Ds} {wq w' : World} (h : Lw B w b d X wq) (hb : Below wq.heap.size wq w') : Lw B w b d X w' := by
  obtain ⟨⟨O, h1, h2⟩, h3, h4, h5⟩ := h
  exact ⟨⟨O, h1.below hb, h2⟩, h3.trans (hb.mono h5), h4, Nat.le_trans h5 hb.size⟩
theorem Lw.put {B : Nat} {w : World} {b d : Nat} {X : Ws × Ds} {k : Nat} {wq : World} (h : Lw B w b d X wq) {lim evy : Nat} (hok : Ok lim evy k X) (hk : k < 60) (l : Ln) :
    Calls Tryz.prog 9 #[.pointer (some ⟨b, 0, none⟩), .agg (rv (lnR l k))] wq fun e w' => e = .returned (.tuple #[.agg #[.int .u32 ((plc l k X).1 : Int), .int .i64 ((plc l k X).2.1 : Int), .int .i64 ((plc l k X).2.2 : Int)], .int .i64 0]) ∧ Lw B w b d (pt X.1 X.2 (fB l k)).2 w' := by
  obtain ⟨⟨O, h1, h2⟩, h3, h4, h5⟩ := h
  obtain ⟨s1, s2, s3, s4, s5, s6, _⟩ := hok.step hk l
  have hfl := lnR_len l k (by omega)
  have hop : X.1.op = true := by rcases hok.at_ with ⟨_, q⟩ | ⟨_, _, _, _, q, _⟩ <;> exact q.op
  have hnum : X.1.num ≠ 0 → Nam.Nu X.1.num := by
    rcases hok.at_ with ⟨_, q⟩ | ⟨_, o, c, s, q, q2, q3, _⟩
    · intro e; exact absurd q.num e
    · intro _; rw [q.num]; exact ⟨by omega, by omega⟩
  have hun : X.1.uns ≠ 0 → X.1.num ≠ 0 := by
    rcases hok.at_ with ⟨_, q⟩ | ⟨_, o, c, s, q, q2, q3, _⟩
    · intro e; exact absurd q.uns e
    · intro _; rw [q.num]; omega
  have hla : X.1.laid < 1000000000 := by
    rcases hok.at_ with ⟨_, q⟩ | ⟨_, o, c, s, q, q2, q3, _⟩
    · rw [q.laid]; omega
    · rw [q.laid]; omega
  refine (put_is wq b d O _ _ (lnR l k) h1 hop (by have := hok.acts; omega) hnum hun (lnR_wf l k (by omega)) (lnR_rf l k) hla (by omega) (by have := hok.uns; omega)).mono ?_
  rintro e w' ⟨rfl, O', k1, k2, k3⟩
  have hs1 : (pt X.1 X.2 (en (ofR (lnR l k)))).1 = 0 := s1
  refine ⟨?_, ⟨O', k1, fun x q => (k3 x q).elim (h2 x) (fun q => Nat.le_trans h5 q)⟩, ?_, h4, Nat.le_trans h5 k2.size⟩
  · rw [if_pos hs1, hs1]; rfl
  · exact h3.trans (k2.below (fun x q => q.elim (h2 x) (fun e => by rw [e]; exact h4)) h5)
theorem Lw.syn {B : Nat} {w : World} {b d : Nat} {X : Ws × Ds} {k : Nat} {w0 wq : World} {l : Ln} (h : Lw B w b d (pt X.1 X.2 (fB l k)).2 w0) (hb : Below w0.heap.size w0 wq) {lim evy : Nat} (hok : Ok lim evy k X) (hk : k < 60) :
    Calls Tryz.prog 11 #[.pointer (some ⟨b, 0, none⟩)] wq fun e w' => e = .returned (.int .i64 0) ∧ Lw B w b d (syR (pt X.1 X.2 (fB l k)).2.1 (pt X.1 X.2 (fB l k)).2.2).2 w' ∧ ∀ g, w0.heap.size ≤ g → g < wq.heap.size → w'.heap[g]? = wq.heap[g]? := by
  obtain ⟨⟨O, h0, h2⟩, h3, h4, h5⟩ := h
  have h1 := h0.below hb
  have h5' := Nat.le_trans h5 hb.size
  obtain ⟨s1, s2, s3, s4, s5, s6, _⟩ := hok.step hk l
  refine (wsync_is wq b d O _ _ h1 s4 (by omega) (fun _ => s6)).mono ?_
  rintro e w' ⟨rfl, O', k1, k2, k3⟩
  refine ⟨by rw [s2]; rfl, ⟨⟨O', k1, fun x q => (k3 x q).elim (h2 x) (fun q => Nat.le_trans h5' q)⟩, ?_, h4, Nat.le_trans h5' k2.size⟩, fun g h6 h7 => k2.block g h7 (fun q => ?_)⟩
  · exact (h3.trans (hb.mono h5)).trans (k2.below (fun x q => q.elim (h2 x) (fun e => by rw [e]; exact h4)) h5')
  · rcases q with q | q
    · have := h0.1.olt g q; omega
    · have := h0.lt; omega
theorem fls_below {w w' : World} {lo : Nat} {v : Value} {l : List (ByteArray × List Nat)} (h : FLs w lo v l) (hb : Below w.heap.size w w') : FLs w' lo v l := h.same fun g _ h2 => hb.block g h2
theorem Lw.files {B : Nat} {w : World} {b d : Nat} {X : Ws × Ds} {wq : World} (h : Lw B w b d X wq) (ha : X.2.acts ≤ 1000) :
    Calls Tryz.prog 12 #[.pointer (some ⟨d, 0, none⟩)] wq fun e w' => ∃ v, e = .returned v ∧ FLs w' wq.heap.size v (Dk.told X.2 true) ∧ Below wq.heap.size wq w' := by
  obtain ⟨⟨O, h1, h2⟩, _⟩ := h
  exact files_is wq d O X.2 h1.1 (by omega)
theorem Lw.lasting {B : Nat} {w : World} {b d : Nat} {X : Ws × Ds} {wq : World} (h : Lw B w b d X wq) (ha : X.2.acts ≤ 1000) :
    Calls Tryz.prog 13 #[.pointer (some ⟨d, 0, none⟩)] wq fun e w' => ∃ v, e = .returned v ∧ FLs w' wq.heap.size v (Dk.told X.2 false) ∧ Below wq.heap.size wq w' := by
  obtain ⟨⟨O, h1, h2⟩, _⟩ := h
  exact lasting_is wq d O X.2 h1.1 (by omega)
end Sg
end Go.Proofs.YtngnbkdfbmhndaaGreat
namespace Go.Proofs.YtngnbkdfbmhndaaGreat
open Go.RowKit Go.Maps Go.Sort
namespace Sg
open Vt Dk
attribute [local go_sem] Oper.semAt_some
attribute [local go_sem ↓] slice_hid
theorem tot_mem {fs : List Fi} {f : Fi} (h : f ∈ fs) : f.dat.length ≤ tot fs := by
  induction fs with
  | nil => cases h
  | cons x r ih =>
    have e : tot (x :: r) = x.dat.length + tot r := by simp [tot]
    rw [e]
    rcases List.mem_cons.1 h with rfl | h
    · omega
    · have := ih h; omega
set_option maxRecDepth 100000 in
set_option maxHeartbeats 2000000 in
theorem lasts_walk (lim evy : Int) (v : Value) (ls : List Ln) (w : World) (h1 : -9223372036854775808 ≤ lim) (h2 : lim ≤ 9223372036854775807) (h3 : -9223372036854775808 ≤ evy) (h4 : evy ≤ 9223372036854775807) (hL : IsL w.heap.size w v ls) :
    Calls Tryz.prog 3 #[.int .i64 lim, .int .i64 evy, v] w fun e w' => e = .returned (.bool true) ∧ Below w.heap.size w w' := by
  have hmx : Tryz.prog.follows .mixedOrders = true := by kernel_rfl
  obtain ⟨a, c, rfl⟩ := hL.shape
  have hBm : ls.length ≤ 140737488355328 := hL.2.1
  have HL := hd hL
  have HFR := hd (fresh_is lim evy w h1 h2 h3 h4)
  have HP2 : Hid (∀ w, Calls Tryz.prog 8 #[.int .i64 evy, .int .i64 6] w fun e w' => e = .returned (.int .i64 ((pk evy 6 : Nat) : Int)) ∧ w' = w) := fun w => pick9_is evy 6 w h3 h4 (by omega) (by omega)
  have hpk := pk_lt evy (n := 6) (by omega)
  obtain ⟨X, hX⟩ : ∃ X, X = (w0S lim evy, ds0 1000000) := ⟨_, rfl⟩
  have HOK : Hid (∀ k, k ≤ 60 → Ok (64 + pk lim 400) (pk evy 6) k (sat ls X k)) := by rw [hX]; exact sat_ok lim evy ls
  have HLA : Hid (∀ k, k ≤ 60 → La (sat ls X k)) := by rw [hX]; exact sat_la lim evy ls
  have HX := hd hX
  clear hL h1 h2 h3 h4 hX
  generalize pk evy 6 = n at *
  go_enter Tryz.func3, Tryz.ntmps3
  go_wp2_with fail
  refine Calls.mono HFR.out ?_
  rintro e w1 ⟨d, b, O, rfl, hwk, hb1, hbb, hO⟩
  have HLW0 : Hid (Lw w.heap.size w b d (sat ls X 0) w1) := ⟨⟨O, by show WK w1 b d O X.1 X.2; rw [HX.out]; exact hwk, hO⟩, hb1, hbb, hb1.size⟩
  clear hwk hO hb1 HFR HX
  go_wp2_with fail
  refine Calls.mono (HP2.out _) ?_
  rintro e w2 ⟨rfl, rfl⟩
  go_wp2_with fail
  go_loopw [10] (fun i wq => ∃ k : Nat, k ≤ ls.length ∧ k ≤ 40 ∧ i = .int .i64 (k : Int) ∧ Lw w.heap.size w b d (sat ls X k) wq) (fun i _ => ls.length - (intOf i).toNat)
  case atStart => exact ⟨0, by omega, by omega, rfl, HLW0.out⟩
  case round =>
    obtain ⟨k, hk, hk4, rfl, hW⟩ := hrel
    have HW := hd hW
    clear hW
    by_cases hlt : k < ls.length
    · by_cases h40 : k < 40
      · obtain ⟨lb, off, l, rfl, hlk, hgd, hks, hvs, d0, d1, d2, d3⟩ := (HL.out.below HW.out.2.1).at hlt
        have HLS := hd hgd
        clear hlk hgd
        have hBr : w.heap.size ≤ wr.heap.size := HW.out.2.2.2
        have HNX : Hid (sat ls X (k + 1) = stp l k (sat ls X k)) := by rw [← HLS.out]; rfl
        have hst := (HLA.out k (by omega)).step (HOK.out k (by omega)) (by omega) l
        obtain ⟨_, old, cur0, las, hiv, hol, htl, hpl, hsn⟩ := hst
        rw [← HNX.out] at hiv htl
        have HTF : Hid (Dk.told (sat ls X (k + 1)).2 true = ((files 1 old).map fun f => (f.nm, f.dat)) ++ [(nmS (old.length + 1), cur0 ++ fB l k)] ∧ Dk.told (sat ls X (k + 1)).2 false = ((files 1 old).map fun f => (f.nm, f.dat)) ++ [(nmS (old.length + 1), (cur0 ++ fB l k).take las)]) := ⟨told_iv hiv (by omega) true, told_iv hiv (by omega) false⟩
        obtain ⟨m1, hm1⟩ : ∃ m1, m1 = old.length + 1 := ⟨_, rfl⟩
        have hz1 : ((m1 : Int) == 0) = false := by simp; omega
        have hz2 : m1 ≤ 61 := by omega
        have HM1 := hd hm1
        clear hm1
        have HLN : Hid ((((files 1 old).map fun f => (f.nm, f.dat)) ++ [(nmS (old.length + 1), cur0 ++ fB l k)]).length = m1 ∧ (((files 1 old).map fun f => (f.nm, f.dat)) ++ [(nmS (old.length + 1), (cur0 ++ fB l k).take las)]).length = m1) := by rw [HM1.out]; constructor <;> simp [files_len]
        have hcl : (cur0 ++ fB l k).length ≤ 100000 := by
          have hg := hiv.good.las
          have hu := hiv.good.used
          have ho := (HOK.out (k + 1) (by omega)).used
          have hm : (⟨nmS (old.length + 1), cur0 ++ fB l k, las⟩ : Fi) ∈ (sat ls X (k + 1)).2.fs := by rw [hiv.fs]; exact List.mem_append_right _ (List.mem_singleton.2 rfl)
          have := tot_mem hm
          simp only at this
          omega
        have HPR : Hid (∀ t, t < old.length → ∃ s x, (((files 1 old).map fun f => (f.nm, f.dat)) ++ [(nmS (old.length + 1), cur0 ++ fB l k)])[t]? = some (s, x) ∧ (((files 1 old).map fun f => (f.nm, f.dat)) ++ [(nmS (old.length + 1), (cur0 ++ fB l k).take las)])[t]? = some (s, x)) := by
          intro t ht
          have htl' : t < ((files 1 old).map fun f => (f.nm, f.dat)).length := by rw [List.length_map, files_len]; exact ht
          exact ⟨_, _, (List.getElem?_append_left htl').trans (List.getElem?_eq_getElem htl'), (List.getElem?_append_left htl').trans (List.getElem?_eq_getElem htl')⟩
        have HPE : Hid ((((files 1 old).map fun f => (f.nm, f.dat)) ++ [(nmS (old.length + 1), cur0 ++ fB l k)])[old.length]? = some (nmS (old.length + 1), cur0 ++ fB l k) ∧ (((files 1 old).map fun f => (f.nm, f.dat)) ++ [(nmS (old.length + 1), (cur0 ++ fB l k).take las)])[old.length]? = some (nmS (old.length + 1), (cur0 ++ fB l k).take las)) := by
          have hle : ((files 1 old).map fun f => (f.nm, f.dat)).length = old.length := by rw [List.length_map, files_len]
          constructor
          · rw [List.getElem?_append_right (by omega), hle, Nat.sub_self]; rfl
          · rw [List.getElem?_append_right (by omega), hle, Nat.sub_self]; rfl
        have HTL := hd htl
        have HPLC := hd hpl
        have HSN := hd hsn
        have HEV := hd (HOK.out (k + 1) (by omega)).evy
        clear hiv htl hpl hsn
        go_wp2_with fail
        refine Calls.mono (record_is l k wr hks hvs (by omega)) ?_
        rintro e w2' ⟨rfl, hB2⟩
        have HW2 := hd (HW.out.bels hB2)
        have HPU := hd (HW2.out.put (HOK.out k (by omega)) (by omega) l)
        rw [HPLC.out] at HPU
        obtain ⟨p1, hp1⟩ : ∃ p1, p1 = old.length + 1 := ⟨_, rfl⟩
        simp only [← hp1] at HPU
        clear hp1
        have hlb : lb < w.heap.size := by
          obtain ⟨_, _, ⟨e0, _⟩ | ⟨b0, o0, c0, e0, hb0, _⟩⟩ := HL.out
          · subst e0; simp at hlt
          · injection e0 with e0; injection e0 with e0; injection e0 with e0; omega
        have HD3 : Hid (∀ w', Below w.heap.size w w' → w'.cell? ⟨lb, off + k * 4 + 3, none⟩ = some (.bool l.syn)) := by
          intro w' hb'
          obtain ⟨lb', off', l', e1, _, e2, _, _, _, _, _, q3⟩ := (HL.out.below hb').at hlt
          injection e1 with e1
          injection e1 with e1 e4
          subst e1 e4
          rw [← HLS.out, e2]; exact q3
        clear hB2 d0 d1 d2 d3 HW
        go_wp2_with fail
        refine Calls.mono HPU.out ?_
        rintro e w3 ⟨rfl, hl3⟩
        have HL3 := hd hl3
        clear hl3 HPU HW2
        have HPB := hd (Blk.new w3 TPl [.int .u32 (p1 : Int), .int .i64 (cur0.length : Int), .int .i64 ((fB l k).length : Int)])
        have hbp : Below w3.heap.size w3 (w3.alloc (.cells #[.int .u32 (p1 : Int), .int .i64 (cur0.length : Int), .int .i64 ((fB l k).length : Int)] TPl)) := (Below.refl _ _).alloc (Nat.le_refl _) _
        have HL3P := hd (HL3.out.bels hbp)
        have e3 := HD3.out _ HL3.out.2.1
        have hs3 := HL3.out.2.2.2
        have nl1 : ¬ lb = w3.heap.size := by omega
        have nl2 : ¬ w3.heap.size = lb := by omega
        have nl3 : lb < w3.heap.size := by omega
        have e3P := HD3.out _ HL3P.out.2.1
        clear hbp
        cases hsy : l.syn
        · rw [hsy] at e3 e3P
          have HSY := hd hsy
          clear hsy
          go_wp2_with fail
          obtain ⟨w4, hw4⟩ : ∃ w4, w4 = w3.alloc (.cells #[.int .u32 (p1 : Int), .int .i64 (cur0.length : Int), .int .i64 ((fB l k).length : Int)] TPl) := ⟨_, rfl⟩
          have HL4 : Hid (Lw w.heap.size w b d (pt (sat ls X k).1 (sat ls X k).2 (fB l k)).2 w4) := by rw [hw4]; exact HL3P.out
          have HPB4 : Hid (Blk w4 w3.heap.size TPl [.int .u32 (p1 : Int), .int .i64 (cur0.length : Int), .int .i64 ((fB l k).length : Int)]) := by rw [hw4]; exact HPB.out
          rw [← hw4]
          clear HL3 HL3P HPB hw4 e3 e3P
          have HLW4 : Hid (Lw w.heap.size w b d (sat ls X (k + 1)) w4) := by rw [HNX.out]; unfold stp; rw [HSY.out]; exact HL4.out
          have hac : (sat ls X (k + 1)).2.acts ≤ 1000 := by have := (HOK.out (k + 1) (by omega)).acts; omega
          have HFI := hd (HLW4.out.files hac)
          refine Calls.mono HFI.out ?_
          rintro e w5 ⟨vf, rfl, hF5, hb5⟩
          have HLW5 := hd (HLW4.out.bels hb5)
          have HF5 := hd hF5
          have HPB5 := hd (HPB4.out.keep hb5)
          have HLA5 := hd (HLW5.out.lasting hac)
          clear hb5 hF5 HFI HLW4 HL4
          go_wp2_with fail
          refine Calls.mono HLA5.out ?_
          rintro e w6 ⟨vl, rfl, hG6, hb6⟩
          have HLW6 := hd (HLW5.out.bels hb6)
          have HF6 := hd (fls_below HF5.out hb6)
          have HG6 := hd hG6
          have HPB6 := hd (HPB5.out.keep hb6)
          have hsz6 := HLW6.out.2.2.2
          clear hb6 hG6 HLA5 HLW5 HF5 HPB5
          rw [HTF.out.1] at HF6
          rw [HTF.out.2] at HG6
          obtain ⟨af, cf, hsf, _⟩ := HF6.out.shape
          obtain ⟨ag, cg, hsg, _⟩ := HG6.out.shape
          subst hsf hsg
          rw [HLN.out.1] at HF6 ⊢
          rw [HLN.out.2] at HG6 ⊢
          go_wp2_with fail
          go_loopw [16] (fun j wj => ∃ t : Nat, t ≤ m1 ∧ j = .int .i64 (t : Int) ∧ Below w6.heap.size w6 wj) (fun j _ => m1 - (intOf j).toNat)
          case atStart => exact ⟨0, by omega, rfl, Below.refl _ _⟩
          case round =>
            obtain ⟨t, ht, rfl, hbj⟩ := hrel
            have HBJ := hd hbj
            have HFj := hd (fls_below HF6.out hbj)
            have HGj := hd (fls_below HG6.out hbj)
            have HPBj := hd (HPB6.out.keep hbj)
            have HLWj := hd (HLW6.out.bels hbj)
            have e3 := HD3.out _ HLWj.out.2.1
            rw [HSY.out] at e3
            have q1 := HPBj.out.cell 1 _ rfl
            have q2 := HPBj.out.cell 2 _ rfl
            clear hbj
            by_cases htm : t < old.length
            · obtain ⟨sx, x, hx1, hx2⟩ := HPR.out t htm
              obtain ⟨g1, c1, ua1, uc1, f1, _, _, _, f3, f4⟩ := HFj.out.at hx1
              obtain ⟨g2, c2, ua2, uc2, f5, _, _, _, f7, f8⟩ := HGj.out.at hx2
              rw [HLN.out.1] at f1
              rw [HLN.out.2] at f5
              injection f1 with f1a f1b f1c
              injection f5 with f5a f5b f5c
              subst f1a f1c f5a f5c
              have hxl : x.length ≤ maxLen := f4.isB.2.1
              unfold maxLen at hxl
              have ht1 : t + 1 < m1 := by have := HM1.out; omega
              have b1 : ((t : Int) == (m1 : Int) - 1) = false := by simp; omega
              have b2 : (t : Int) < (m1 : Int) - 1 := by omega
              clear hx1 hx2 f4 f8 f1b f5b
              go_wp2_with fail
              go_roundw
              case rel => exact ⟨t + 1, by omega, by go_num, HBJ.out⟩
              case measure => simp [intOf]; omega
            · by_cases hte : t = old.length
              · obtain ⟨hx1, hx2⟩ := HPE.out
                have hte1 : t + 1 = m1 := by rw [HM1.out, hte]
                have hte2 : ((t : Int) == (m1 : Int) - 1) = true := by simp; omega
                have hte3 : ¬ (t : Int) < (m1 : Int) - 1 := by omega
                have hte4 : t < m1 := by omega
                have hlas := HTL.out.1
                have htk : ((cur0 ++ fB l k).take las).length = las := by rw [List.length_take]; omega
                obtain ⟨g1, c1, ua1, uc1, f1, _, _, _, f3, f4⟩ := HFj.out.at hx1
                obtain ⟨g2, c2, ua2, uc2, f5, _, _, _, f7, f8⟩ := HGj.out.at hx2
                rw [HLN.out.1] at f1
                rw [HLN.out.2] at f5
                injection f1 with f1a f1b f1c
                injection f5 with f5a f5b f5c
                subst f1a f1c f5a f5c
                rw [htk] at f7
                rw [← hte] at f3 f7
                have hcnt := HTL.out.count f4.isB.1
                have hue := HTL.out.2.1
                rw [HEV.out] at hue
                obtain ⟨va, vc, hsl, hsI⟩ := run_slO_from f4 las hlas
                have hsum := @List.length_append _ cur0 (fB l k)
                obtain ⟨xl, hxl⟩ : ∃ xl, xl = (cur0 ++ fB l k).length := ⟨_, rfl⟩
                rw [← hxl] at hsl hsI hlas hsum hcl f3
                have HXL := hd hxl
                clear hxl
                have hy1 : ¬ (las : Int) > (xl : Int) := by omega
                have hbne : ((xl : Int) != (cur0.length : Int) + ((fB l k).length : Int)) = false := by simp; omega
                have hc0 : cur0.length ≤ 100000 := by omega
                have hc1 : (fB l k).length ≤ 100000 := by omega
                have HCT := hd hcnt
                have HUE := hd hue
                have HSI := hd hsI
                have hdl : ((cur0 ++ fB l k).drop las).length ≤ 16777216 := by rw [List.length_drop, ← HXL.out]; omega
                have HRC := hd (records_nil _ _ wr HSI.out hdl)
                clear hx1 hx2 f4 f8 f1b f5b hcnt hue hsI hsum htk hdl hte hte1
                by_cases hn0 : n = 0
                · subst hn0
                  go_wp2_with fail
                  go_roundw
                  case rel => exact ⟨t + 1, by omega, by go_num, HBJ.out⟩
                  case measure => simp [intOf]; omega
                · have hn1 : (n : Int) > 0 := by omega
                  have huns : (sat ls X (k + 1)).1.uns < n := by have := HUE.out; omega
                  generalize (sat ls X (k + 1)).1.uns = un at *
                  go_wp2_with fail
                  refine Calls.mono HRC.out ?_
                  rintro e w7 ⟨v7, rfl, hj7, hb7⟩
                  have HBJ7 := hd (HBJ.out.trans (hb7.mono HBJ.out.size))
                  obtain ⟨a7, c7, hs7, _⟩ := hj7.shape
                  rw [List.length_map, HCT.out] at hs7
                  subst hs7
                  have hge : ¬ (un : Int) ≥ (n : Int) := by omega
                  have HPB7 := HPBj.out.keep hb7
                  have q1' := HPB7.cell 1 _ rfl
                  have q2' := HPB7.cell 2 _ rfl
                  clear hb7 hj7 HPB7
                  go_wp2_with fail
                  go_roundw
                  case rel => exact ⟨t + 1, by omega, by go_num, HBJ7.out⟩
                  case measure => simp [intOf]; omega
              · have htl2 : ¬ t < m1 := by have := HM1.out; omega
                have htl3 : t = m1 := by omega
                subst htl3
                go_wp2_with fail
                go_roundw
                case rel => exact ⟨k + 1, by omega, by omega, by go_num, HLWj.out⟩
                case measure => simp [intOf]; omega
        · rw [hsy] at e3 e3P
          have HSY := hd hsy
          clear hsy
          go_wp2_with fail
          have HSC := hd (HL3.out.syn ((Below.refl _ w3).alloc (Nat.le_refl _) (.cells #[.int .u32 (p1 : Int), .int .i64 (cur0.length : Int), .int .i64 ((fB l k).length : Int)] TPl)) (HOK.out k (by omega)) (by omega))
          refine Calls.mono HSC.out ?_
          rintro e w4 ⟨rfl, hl4, hkp⟩
          have HL4 := hd hl4
          have HPB4 : Hid (Blk w4 w3.heap.size TPl [.int .u32 (p1 : Int), .int .i64 (cur0.length : Int), .int .i64 ((fB l k).length : Int)]) := (hkp w3.heap.size (Nat.le_refl _) (by simp)).trans HPB.out
          clear HL3 HL3P HPB e3 e3P hl4 hkp HSC
          go_wp2_with fail
          have HLW4 : Hid (Lw w.heap.size w b d (sat ls X (k + 1)) w4) := by rw [HNX.out]; unfold stp; rw [HSY.out]; exact HL4.out
          have hac : (sat ls X (k + 1)).2.acts ≤ 1000 := by have := (HOK.out (k + 1) (by omega)).acts; omega
          have HFI := hd (HLW4.out.files hac)
          refine Calls.mono HFI.out ?_
          rintro e w5 ⟨vf, rfl, hF5, hb5⟩
          have HLW5 := hd (HLW4.out.bels hb5)
          have HF5 := hd hF5
          have HPB5 := hd (HPB4.out.keep hb5)
          have HLA5 := hd (HLW5.out.lasting hac)
          clear hb5 hF5 HFI HLW4 HL4
          go_wp2_with fail
          refine Calls.mono HLA5.out ?_
          rintro e w6 ⟨vl, rfl, hG6, hb6⟩
          have HLW6 := hd (HLW5.out.bels hb6)
          have HF6 := hd (fls_below HF5.out hb6)
          have HG6 := hd hG6
          have HPB6 := hd (HPB5.out.keep hb6)
          have hsz6 := HLW6.out.2.2.2
          clear hb6 hG6 HLA5 HLW5 HF5 HPB5
          rw [HTF.out.1] at HF6
          rw [HTF.out.2] at HG6
          obtain ⟨af, cf, hsf, _⟩ := HF6.out.shape
          obtain ⟨ag, cg, hsg, _⟩ := HG6.out.shape
          subst hsf hsg
          rw [HLN.out.1] at HF6 ⊢
          rw [HLN.out.2] at HG6 ⊢
          go_wp2_with fail
          go_loopw [16] (fun j wj => ∃ t : Nat, t ≤ m1 ∧ j = .int .i64 (t : Int) ∧ Below w6.heap.size w6 wj) (fun j _ => m1 - (intOf j).toNat)
          case atStart => exact ⟨0, by omega, rfl, Below.refl _ _⟩
          case round =>
            obtain ⟨t, ht, rfl, hbj⟩ := hrel
            have HBJ := hd hbj
            have HFj := hd (fls_below HF6.out hbj)
            have HGj := hd (fls_below HG6.out hbj)
            have HPBj := hd (HPB6.out.keep hbj)
            have HLWj := hd (HLW6.out.bels hbj)
            have e3 := HD3.out _ HLWj.out.2.1
            rw [HSY.out] at e3
            have q1 := HPBj.out.cell 1 _ rfl
            have q2 := HPBj.out.cell 2 _ rfl
            clear hbj
            by_cases htm : t < old.length
            · obtain ⟨sx, x, hx1, hx2⟩ := HPR.out t htm
              obtain ⟨g1, c1, ua1, uc1, f1, _, _, _, f3, f4⟩ := HFj.out.at hx1
              obtain ⟨g2, c2, ua2, uc2, f5, _, _, _, f7, f8⟩ := HGj.out.at hx2
              rw [HLN.out.1] at f1
              rw [HLN.out.2] at f5
              injection f1 with f1a f1b f1c
              injection f5 with f5a f5b f5c
              subst f1a f1c f5a f5c
              have hxl : x.length ≤ maxLen := f4.isB.2.1
              unfold maxLen at hxl
              have ht1 : t + 1 < m1 := by have := HM1.out; omega
              have b1 : ((t : Int) == (m1 : Int) - 1) = false := by simp; omega
              have b2 : (t : Int) < (m1 : Int) - 1 := by omega
              clear hx1 hx2 f4 f8 f1b f5b
              go_wp2_with fail
              go_roundw
              case rel => exact ⟨t + 1, by omega, by go_num, HBJ.out⟩
              case measure => simp [intOf]; omega
            · by_cases hte : t = old.length
              · obtain ⟨hx1, hx2⟩ := HPE.out
                have hte1 : t + 1 = m1 := by rw [HM1.out, hte]
                have hte2 : ((t : Int) == (m1 : Int) - 1) = true := by simp; omega
                have hte3 : ¬ (t : Int) < (m1 : Int) - 1 := by omega
                have hte4 : t < m1 := by omega
                have hlas := HTL.out.1
                have htk : ((cur0 ++ fB l k).take las).length = las := by rw [List.length_take]; omega
                obtain ⟨g1, c1, ua1, uc1, f1, _, _, _, f3, f4⟩ := HFj.out.at hx1
                obtain ⟨g2, c2, ua2, uc2, f5, _, _, _, f7, f8⟩ := HGj.out.at hx2
                rw [HLN.out.1] at f1
                rw [HLN.out.2] at f5
                injection f1 with f1a f1b f1c
                injection f5 with f5a f5b f5c
                subst f1a f1c f5a f5c
                rw [htk] at f7
                rw [← hte] at f3 f7
                have hcnt := HTL.out.count f4.isB.1
                have hue := HTL.out.2.1
                rw [HEV.out] at hue
                obtain ⟨va, vc, hsl, hsI⟩ := run_slO_from f4 las hlas
                have hsum := @List.length_append _ cur0 (fB l k)
                obtain ⟨xl, hxl⟩ : ∃ xl, xl = (cur0 ++ fB l k).length := ⟨_, rfl⟩
                rw [← hxl] at hsl hsI hlas hsum hcl f3
                have HXL := hd hxl
                clear hxl
                have hy1 : ¬ (las : Int) > (xl : Int) := by omega
                have hbne : ((xl : Int) != (cur0.length : Int) + ((fB l k).length : Int)) = false := by simp; omega
                have hc0 : cur0.length ≤ 100000 := by omega
                have hc1 : (fB l k).length ≤ 100000 := by omega
                have hbx : ((xl : Int) != (las : Int)) = false := by have := HSN.out HSY.out; have := HXL.out; simp; omega
                have HCT := hd hcnt
                have HUE := hd hue
                have HSI := hd hsI
                have hdl : ((cur0 ++ fB l k).drop las).length ≤ 16777216 := by rw [List.length_drop, ← HXL.out]; omega
                have HRC := hd (records_nil _ _ wr HSI.out hdl)
                clear hx1 hx2 f4 f8 f1b f5b hcnt hue hsI hsum htk hdl hte hte1
                by_cases hn0 : n = 0
                · subst hn0
                  go_wp2_with fail
                  go_roundw
                  case rel => exact ⟨t + 1, by omega, by go_num, HBJ.out⟩
                  case measure => simp [intOf]; omega
                · have hn1 : (n : Int) > 0 := by omega
                  have huns : (sat ls X (k + 1)).1.uns < n := by have := HUE.out; omega
                  generalize (sat ls X (k + 1)).1.uns = un at *
                  go_wp2_with fail
                  refine Calls.mono HRC.out ?_
                  rintro e w7 ⟨v7, rfl, hj7, hb7⟩
                  have HBJ7 := hd (HBJ.out.trans (hb7.mono HBJ.out.size))
                  obtain ⟨a7, c7, hs7, _⟩ := hj7.shape
                  rw [List.length_map, HCT.out] at hs7
                  subst hs7
                  have hge : ¬ (un : Int) ≥ (n : Int) := by omega
                  have HPB7 := HPBj.out.keep hb7
                  have q1' := HPB7.cell 1 _ rfl
                  have q2' := HPB7.cell 2 _ rfl
                  clear hb7 hj7 HPB7
                  go_wp2_with fail
                  go_roundw
                  case rel => exact ⟨t + 1, by omega, by go_num, HBJ7.out⟩
                  case measure => simp [intOf]; omega
              · have htl2 : ¬ t < m1 := by have := HM1.out; omega
                have htl3 : t = m1 := by omega
                subst htl3
                go_wp2_with fail
                go_roundw
                case rel => exact ⟨k + 1, by omega, by omega, by go_num, HLWj.out⟩
                case measure => simp [intOf]; omega
      · have h40' : ¬ (k : Int) < 40 := by omega
        go_wp2_with fail
        go_ret
        exact ⟨rfl, HW.out.2.1⟩
    · have hkk : k = ls.length := by omega
      have hlt' : ¬ (k : Int) < (ls.length : Int) := by omega
      clear hkk
      go_wp2_with fail
      go_ret
      exact ⟨rfl, HW.out.2.1⟩
end Sg
end Go.Proofs.YtngnbkdfbmhndaaGreat
namespace Go.Proofs.YtngnbkdfbmhndaaGreat
open Go.ChangeShapes Go.WideShapes Go.ChangeAt Go.RowKit Go.Deep
namespace Sg
open Vt Dk
theorem cell_ln : Tryz.prog.cellsOf TLn = 4 := by kernel_rfl
theorem cell_st : Tryz.prog.cellsOf 9 = 1 := by kernel_rfl
theorem cell_bo : Tryz.prog.cellsOf 4 = 1 := by kernel_rfl
theorem bytes_ln : Tryz.prog.bytesOf TLn = 40 := by kernel_rfl
theorem four {α : Type} {l : List α} (h : l.length = 4) : ∃ a b c d, l = [a, b, c, d] := by
  match l, h with
  | [a, b, c, d], _ => exact ⟨a, b, c, d, rfl⟩
theorem line_open {H : Type} {enc : TypeId × Value → H} {W : World} {base : Nat} {sp : Nat → Bool} {held : Bool} {fuel : Nat} {cs : List Value} {y : DataW H × List MemPlace} (h : DataW.trod enc Tryz.prog W base sp held fuel TLn cs = some y) (hl : cs.length = 4) :
    ∃ l : Ln, cs = lnv l ∧ l.val.size ≤ maxLen ∧ l.key.size ∈ y.1.weights Tryz.prog TLn := by
  obtain ⟨xs, k, hk, hxy, _, hxl, hf⟩ := DataW.trod_struct Tryz.underlying39 h
  obtain ⟨y0, y1, y2, y3, rfl⟩ := four (l := xs) hxl
  obtain ⟨v0, v1, v2, v3, rfl⟩ := four hl
  have g0 := hf 0 ⟨ "Key", 9, 0, false, "", "", 0⟩ rfl
  have g1 := hf 1 ⟨ "Value", 9, 1, false, "", "", 16⟩ rfl
  have g2 := hf 2 ⟨ "Gone", 4, 2, false, "", "", 32⟩ rfl
  have g3 := hf 3 ⟨ "Sync", 4, 3, false, "", "", 33⟩ rfl
  simp only [cell_st, List.drop_zero, List.take_succ_cons, List.take_zero, List.getElem?_cons_zero] at g0
  simp only [cell_st, List.drop_succ_cons, List.drop_zero, List.take_succ_cons, List.take_zero, List.getElem?_cons_succ, List.getElem?_cons_zero] at g1
  simp only [cell_bo, List.drop_succ_cons, List.drop_zero, List.take_succ_cons, List.take_zero, List.getElem?_cons_succ, List.getElem?_cons_zero] at g2 g3
  obtain ⟨s0, e0, x0, _⟩ := DataW.trod_string Tryz.underlying9 g0
  obtain ⟨s1, e1, _, z1⟩ := DataW.trod_string Tryz.underlying9 g1
  obtain ⟨b2, e2, _⟩ := DataW.trod_bool Tryz.underlying4 g2
  obtain ⟨b3, e3, _⟩ := DataW.trod_bool Tryz.underlying4 g3
  refine ⟨⟨s0, s1, b2, b3⟩, ?_, z1, ?_⟩
  · simp only [List.cons.injEq, and_true] at e0 e1 e2 e3
    subst e0 e1 e2 e3
    rfl
  · rw [hxy]
    show _ ∈ DataW.weights Tryz.prog TLn (.agg _)
    unfold DataW.weights
    rw [Tryz.underlying39]
    refine DataW.weights_mem_each (j := 0) (t := 9) (d := y0.1) rfl rfl _ ?_
    rw [x0]
    show s0.size ∈ [s0.data.toList.length]
    simp
theorem add_of (b off i : Nat) : Addr.add ⟨b, off, none⟩ i = ⟨b, off + i, none⟩ := by
  unfold Addr.add; split
  · subst_vars; rfl
  · rfl
theorem weights_all {H : Type} {P : Program} {e : TypeId} {ds : List (DataW H)} {d : DataW H} (h : d ∈ ds) {n : Nat} (hn : n ∈ d.weights P e) : n ∈ DataW.weightsAll P e ds := by
  induction ds with
  | nil => cases h
  | cons a r ih =>
    simp only [DataW.weightsAll, List.mem_append]
    rcases List.mem_cons.1 h with rfl | h
    · exact .inl hn
    · exact .inr (ih h)
theorem lines_open {H : Type} {enc : TypeId × Value → H} {W : World} {fuel : Nat} {y : DataW H × List MemPlace} {a0 : Option Addr} {len0 cap0 : Nat} (h : DataW.trod enc Tryz.prog W 0 (fun _ => true) true fuel 22 [.slice a0 len0 cap0] = some y)
    (hw : ∀ n ∈ y.1.weights Tryz.prog 22, n ≤ reachBytes) : ∃ ls : List Ln, IsL W.heap.size W (.slice a0 len0 cap0) ls := by
  rcases open_slice Tryz.underlying22 h with ⟨hcs, _⟩ | ⟨a, len, cap, m, n, D, Pl, hcs, _, hl, hm, hmm, hy, hx⟩
  · simp at hcs
    obtain ⟨rfl, rfl, rfl⟩ := hcs
    exact ⟨[], ⟨by simp, by simp, .inl ⟨rfl, _, _, rfl⟩⟩⟩
  · simp at hcs
    obtain ⟨rfl, rfl, rfl⟩ := hcs
    simp only [if_true] at hmm
    subst hmm
    rw [hy] at hw
    simp only [DataW.weights, Tryz.underlying22, List.length_map, List.length_range, bytes_ln] at hw
    have hlen : len0 ≤ 140737488355328 := by
      have := hw _ List.mem_cons_self
      unfold reachBytes at this
      omega
    by_cases h0 : len0 = 0
    · subst h0
      exact ⟨[], ⟨by simp, by simp, .inl ⟨rfl, _, _, rfl⟩⟩⟩
    · have hel : ∀ i, i < len0 → ∃ l : Ln, (l.key.size ≤ 140737488355328 ∧ l.val.size ≤ maxLen) ∧ ∀ j u, (lnv l)[j]? = some u → W.cell? (a.add (i * 4) |>.add j) = some u := by
        intro i hi
        obtain ⟨cs', h1, h2⟩ := hx i (by omega)
        rw [show Tryz.prog.cellsOf TLn = 4 from cell_ln] at h1
        obtain ⟨_, hlen', hcell⟩ := World.cells?_some h1
        obtain ⟨l, rfl, hv, hk⟩ := line_open h2 hlen'
        have hkb : l.key.size ≤ reachBytes := hw _ (List.mem_cons_of_mem _ (List.mem_append_left _ (weights_all (d := D i) (List.mem_map_of_mem (List.mem_range.2 hi)) hk)))
        refine ⟨l, ⟨by unfold reachBytes at hkb; omega, hv⟩, fun j u hu => ?_⟩
        have hj : j < 4 := (List.getElem?_eq_some_iff.1 hu).1
        rw [hcell j hj]
        exact hu
      haveI : Inhabited Ln := ⟨zl⟩
      obtain ⟨F, hF⟩ := choose_lt hel
      obtain ⟨b, off, spot⟩ := a
      have hc := (hF 0 (by omega)).2 0 _ rfl
      have hspot : spot = none := by simpa [Addr.add] using World.cell?_spot hc
      subst hspot
      have hbl : b < W.heap.size := by
        have := lt_of_cell hc
        rw [add_of, add_of] at this
        exact this
      refine ⟨(List.range len0).map F, ⟨?_, by simpa using hlen, .inr ⟨b, off, m, by simp, hbl, ?_⟩⟩⟩
      · intro r hr
        obtain ⟨i, hi, rfl⟩ := List.mem_map.1 hr
        exact (hF i (List.mem_range.1 hi)).1
      · intro i l hl j u hu
        rw [List.getElem?_map] at hl
        have hi : i < len0 := by
          rcases Nat.lt_or_ge i len0 with q | q
          · exact q
          · rw [List.getElem?_eq_none (by simpa using q)] at hl; cases hl
        rw [List.getElem?_range hi] at hl
        have : F i = l := by injection hl
        subst this
        have := (hF i hi).2 j u hu
        rwa [add_of, add_of] at this
end Sg
end Go.Proofs.YtngnbkdfbmhndaaGreat
