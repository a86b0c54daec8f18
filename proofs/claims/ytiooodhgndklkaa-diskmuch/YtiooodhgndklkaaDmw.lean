/-
  DiskMuch: A FILE OF UP TO 4194304 BYTES, of which some were synced: behind a crash there is what lasted, and of the rest as many as were to be kept. No condition.
-/
import Derived.Test.YtiooodhgndklkaaDmu
namespace Go.Proofs.Ytiooodhgndklkaa
open Go.ChangeShapes Go.WideShapes Go.ChangeAt Go.RowKit Go.Maps
namespace Dmw
open Vt Dk
theorem run_mul (x y : Int) (w : World) : (binOp .mul 3 (.int .i64 x) (.int .i64 y)).run Try.prog w = .ok (.int .i64 (IntKind.i64.wrap (x * y))) w := by
  go_simp
def muO (x y : Value) : Sem Value := binOp .mul 3 x y
theorem mul_hid (x y : Value) : binOp .mul 3 x y = muO x y := rfl
attribute [local go_sem ↓] slice_hid mul_hid
/-- the disk beside the law's own bytes -/
structure Mu (w : World) (lb n d : Nat) (O : Nat → Prop) (S : Ds) (W : World) : Prop where
  dk : DK W d O S
  row : IsB W (.slice (some ⟨lb, 0, none⟩) n n) (mf n)
  below : Below w.heap.size w W
  own : ∀ b, O b → w.heap.size ≤ b ∧ b ≠ lb
  lo : w.heap.size ≤ lb
  lt : lb < W.heap.size
theorem Mu.next {w : World} {lb n d : Nat} {O : Nat → Prop} {S S' : Ds} {W W' : World} (h : Mu w lb n d O S W) (hx : Nx O W d S' W') : ∃ O', Mu w lb n d O' S' W' := by
  obtain ⟨O', h1, ht, hs⟩ := hx
  refine ⟨O', h1, ?_, ?_, ?_, h.lo, Nat.lt_of_lt_of_le h.lt ht.size⟩
  · have hk : W'.heap[lb]? = W.heap[lb]? := ht.block lb h.lt (fun q => (h.own lb q).2 rfl)
    obtain ⟨q1, q2, q3 | ⟨b, off, c, q3, q4, q5, q6, q7⟩⟩ := h.row
    · exact ⟨q1, q2, .inl q3⟩
    · have hb : b = lb := by injection q3 with q3; injection q3 with q3; injection q3 with q3; exact q3.symm
      subst hb
      exact ⟨q1, q2, .inr ⟨b, off, c, q3, q4, q5, Nat.lt_of_lt_of_le q6 ht.size, fun i hi => (World.cell?_of_block hk).trans (q7 i hi)⟩⟩
  · have hb := ht.below (fun k q => (h.own k q).1) h.below.size
    exact ⟨hb.os.trans h.below.os, hb.tape.trans h.below.tape, hb.output.trans h.below.output, Nat.le_trans h.below.size hb.size, fun k hk => (hb.block k hk).trans (h.below.block k hk)⟩
  · intro b q
    rcases hs b q with z | z
    · exact h.own b z
    · have := h.lt
      have := h.below.size
      exact ⟨by omega, by omega⟩
theorem isB_nm {w : World} {lb off n c m : Nat} {l : List Nat} (_h : IsB w (.slice (some ⟨lb, off, none⟩) n c) l) {d : Nat} (hd : lb ≠ d) : ∀ b o k c', (Value.slice (some ⟨lb, off, none⟩) m c) = .slice (some ⟨b, o, none⟩) k c' → b ≠ d := by
  intro b o k c' q
  injection q with q
  injection q with q
  injection q with q
  rw [← q]; exact hd
theorem sl_from {w0 : World} {lb n d : Nat} {l : List Nat} (hB : IsB w0 (.slice (some ⟨lb, 0, none⟩) n n) l) (_hl : l.length = n) (k : Nat) (hk : k ≤ n) (hd : lb ≠ d) : ∃ va vc, (∀ w, (slO 27 (.slice (some ⟨lb, 0, none⟩) n n) (some (.int .i64 (k : Int))) none none).run Try.prog w = .ok (.slice va (n - k) vc) w) ∧ IsB w0 (.slice va (n - k) vc) (l.drop k) ∧ ∀ b o j c', (Value.slice va (n - k) vc) = .slice (some ⟨b, o, none⟩) j c' → b ≠ d := by
  have hr : ∀ w, (slO 27 (.slice (some ⟨lb, 0, none⟩) n n) (some (.int .i64 (k : Int))) none none).run Try.prog w = .ok (sliced (some ⟨lb, 0, none⟩) k n n 1) w := by
    intro w
    have := run_slice_l (P := Try.prog) w 27 (some ⟨lb, 0, none⟩) n n (by rw [elem8]; exact Try.underlying27) .i64 (k : Int) (by omega) (by omega)
    rw [elem8, size8] at this
    exact this
  refine ⟨_, _, hr, ?_, ?_⟩
  · have := hB.dropIf k hk (Nat.le_refl _)
    simp only [Option.map_some, Nat.mul_one, add_at]
    exact this
  · intro b o j c' q
    injection q with q
    simp only [Option.map_some, Nat.mul_one, add_at] at q
    split at q
    · injection q with q; injection q with q; rw [← q]; exact hd
    · injection q with q; injection q with q; rw [← q]; exact hd
set_option maxRecDepth 100000 in
set_option maxHeartbeats 1000000 in
theorem walkB (z0 z1 keep : Int) (w : World) (h0 : -9223372036854775808 ≤ z0 ∧ z0 ≤ 9223372036854775807) (h1 : -9223372036854775808 ≤ z1 ∧ z1 ≤ 9223372036854775807) (h2 : -9223372036854775808 ≤ keep ∧ keep ≤ 9223372036854775807) :
    Calls Try.prog 3 #[.int .i64 z0, .int .i64 z1, .int .i64 keep] w fun e w' => e = .returned (.bool true) ∧ Below w.heap.size w w' := by
  obtain ⟨i0, hi, hz0, hz1, hz2⟩ := info_parts info_u8
  obtain ⟨p, hp⟩ : ∃ p, p = pk z0 4194304 := ⟨_, rfl⟩
  have hplt : p < 4194304 := by rw [hp]; exact pk_lt _ (by decide)
  obtain ⟨n, hn⟩ : ∃ n, n = 1 + p := ⟨_, rfl⟩
  have HP1 : Hid (∀ w, Calls Try.prog 10 #[.int .i64 z0, .int .i64 4194304] w fun e w' => e = .returned (.int .i64 (p : Int)) ∧ w' = w) := fun w => by rw [hp]; exact pick_is z0 4194304 w h0.1 h0.2 (by decide) (by decide)
  obtain ⟨s, hs⟩ : ∃ s, s = pk z1 (n + 1) := ⟨_, rfl⟩
  have hsn : s ≤ n := by have := pk_lt z1 (n := n + 1) (by omega); omega
  have HP2 : Hid (∀ w, Calls Try.prog 10 #[.int .i64 z1, .int .i64 ((n : Int) + 1)] w fun e w' => e = .returned (.int .i64 (s : Int)) ∧ w' = w) := fun w => by rw [hs]; exact pick_is z1 (n + 1) w h1.1 h1.2 (by omega) (by omega)
  have HN := hd hn
  have hnb : 1 ≤ n ∧ n ≤ 4194304 := by omega
  obtain ⟨hn1, hn2⟩ := hnb
  clear hp hs hn
  go_enter Try.func3, Try.ntmps3
  go_wp2_with fail
  refine Calls.mono (new0_is w 4194304 (by decide)) ?_
  rintro e w1 ⟨d, O, rfl, hK, ht, hO⟩
  have HK := hd hK
  have HT := hd ht
  have HO := hd hO
  clear hK ht hO
  go_wp2_with fail
  refine Calls.mono (HP1.out _) ?_
  rintro e w2 ⟨rfl, rfl⟩
  go_wp2_with fail
  rw [show (1 : Int) + (p : Int) = ((n : Nat) : Int) by rw [HN.out]; omega]
  refine Calls.mono (HP2.out _) ?_
  rintro e w3 ⟨rfl, rfl⟩
  clear HP1 HP2 HN hplt
  go_wp2_with (at_make; refine wpList_make_full _ rfl _ _ 27 rfl w3.heap.size 5 i0 (.int .u8 0) 1 Try.underlying27 hi hz0 hz1 .i64 .i64 (n : Int) (n : Int) n rfl rfl rfl rfl (by rw [hz2]; omega) (by unfold maxLen; omega) (Nat.le_refl _) ?_; intro w4 hown hgrow)
  obtain ⟨lb, hlb⟩ : ∃ lb, lb = w3.heap.size := ⟨_, rfl⟩
  have HT1 : Hid (Tr (fun _ => False) w3 w4) := Tr.grown hgrow fun k q => by cases q
  have HO1 : Hid (JB w4 0 (.slice (some ⟨lb, 0, none⟩) n n) ((mf n).take 0 ++ List.replicate (n - 0) 0)) := by
    rw [List.take_zero, List.nil_append, Nat.sub_zero]
    refine ⟨by intro x hx; have := List.eq_of_mem_replicate hx; omega, ?_⟩
    rw [made8] at hown; rw [List.length_replicate, hlb]
    obtain ⟨q1, ⟨q2, q3⟩ | ⟨g, cap, cur, q2, _, q4⟩⟩ := hown
    · exact ⟨q1, .inl ⟨q2, q3⟩⟩
    · exact ⟨q1, .inr ⟨g, cap, cur, q2, Nat.zero_le _, q4⟩⟩
  rw [← hlb]
  have HLB := hd hlb
  clear hown hgrow hlb
  go_loopw [12] (fun i wr => ∃ j : Nat, j ≤ n ∧ i = .int .i64 (j : Int) ∧ JB wr 0 (.slice (some ⟨lb, 0, none⟩) n n) ((mf n).take j ++ List.replicate (n - j) 0) ∧ Tr (fun _ => False) w3 wr) (fun i _ => n - (intOf i).toNat)
  case atStart => exact ⟨0, by omega, rfl, HO1.out, HT1.out⟩
  case round =>
    clear HO1 HT1
    obtain ⟨j, hj, rfl, hJ, hT⟩ := hrel
    have HJ := hd hJ
    have HTr := hd hT
    clear hJ hT
    by_cases hlt : j < n
    · have hll : n = ((mf n).take j ++ List.replicate (n - j) 0).length := by rw [List.length_append, List.length_replicate, List.length_take, mf_len]; omega
      have hcell := HJ.out.buf.cell (j := j) (by omega)
      have hfro := HJ.out.buf.2.2.2.2.2 j (by omega)
      have hfs := fill_step (F := mf n) (j := j) (by rw [mf_len]; exact hlt)
      rw [mf_len, mf_at hlt] at hfs
      have HS := hd (HJ.out.set (j := j) (y := (j * j + j / 251) % 256) hll (by omega))
      rw [hfs] at HS
      clear hll hfs
      obtain ⟨q, hq⟩ : ∃ q, q = j * j := ⟨_, rfl⟩
      have hqb : q ≤ 17592186044416 := by
        rw [hq]
        calc j * j ≤ 4194304 * 4194304 := Nat.mul_le_mul (by omega) (by omega)
          _ = 17592186044416 := by decide
      have HQ := hd hq
      have hmul : ∀ w, (muO (.int .i64 (j : Int)) (.int .i64 (j : Int))).run Try.prog w = .ok (.int .i64 (q : Int)) w := by
        intro w
        have e : (j : Int) * (j : Int) = (q : Int) := by rw [hq]; rfl
        have := run_mul (j : Int) (j : Int) w
        rw [e, IntKind.wrap_i64, show ((q : Int) + 9223372036854775808) % 18446744073709551616 - 9223372036854775808 = (q : Int) by omega] at this
        exact this
      clear hq
      go_wp2_with fail
      rw [show ((q : Int) + (j : Int) / 251) % 256 = (((j * j + j / 251) % 256 : Nat) : Int) by rw [← HQ.out]; omega]
      refine ⟨⟨j + 1, by omega, rfl, HS.out, HTr.out.trans (Tr.set (O := fun b => b = lb) (p := ⟨lb, j, none⟩) rfl _) fun b q => .inr (by rw [q, HLB.out]; exact Nat.le_refl _)⟩, ?_⟩
      simp [intOf]
      omega
    · obtain rfl : n = j := by omega
      rw [Nat.sub_self, List.replicate_zero, List.append_nil, List.take_of_length_le (by rw [mf_len]; omega)] at HJ
      have hM0 : Mu w lb n d O (ds0 4194304) wr := by
        refine ⟨HK.out.aside HTr.out (fun _ _ q => q), HJ.out.isB, ?_, fun b q => ⟨HO.out b q, fun z => ?_⟩, ?_, ?_⟩
        · exact (HT.out.trans HTr.out fun x q => q.elim).below (fun k q => q.elim) (Nat.le_refl _)
        · have := HK.out.olt b q
          have := HLB.out
          omega
        · rw [HLB.out]; exact HT.out.size
        · exact HJ.out.blk_lt lb rfl
      clear HJ HTr HK HT HO HLB hi hz0 hz1 hz2
      have HC1 := hd (create_is wr d O (ds0 4194304) nmA hM0.dk (by decide))
      rw [create_st] at HC1
      have HM0 := hd hM0
      clear hM0
      go_wp2_with fail
      refine Calls.mono HC1.out ?_
      rintro e w5 ⟨rfl, hx⟩
      obtain ⟨O5, hM5⟩ := HM0.out.next hx
      clear HC1 HM0 hx
      obtain ⟨RS, hBS⟩ := run_slO_to (l := mf n) (by rw [mf_len]; exact hM5.row) (by rw [mf_len]; exact Nat.le_refl _) s (by rw [mf_len]; exact hsn)
      rw [mf_len] at RS
      have hld : lb ≠ d := fun q => by
        obtain ⟨m, es, hk⟩ := hM5.dk
        exact (hM5.own d hk.own.1).2 q.symm
      have hls : ((mf n).take s).length = s := by rw [List.length_take, mf_len]; omega
      have HA1 := hd (append_is w5 d O5 _ nmA _ _ hM5.dk (by show (1 : Nat) < _; decide) hBS (isB_nm hBS hld))
      rw [append_st (by rw [hls]; omega), hls, Nat.zero_add, List.nil_append] at HA1
      have HM5 := hd hM5
      clear hM5 hBS
      go_wp2_with fail
      refine Calls.mono HA1.out ?_
      rintro e w6 ⟨rfl, hx⟩
      obtain ⟨O6, hM6⟩ := HM5.out.next hx
      clear HA1 HM5 hx RS
      have HS1 := hd (sync_is w6 d O6 _ nmA hM6.dk (by show (2 : Nat) < _; decide))
      rw [sync_st, hls] at HS1
      have HM6 := hd hM6
      clear hM6
      go_wp2_with fail
      refine Calls.mono HS1.out ?_
      rintro e w7 ⟨rfl, hx⟩
      obtain ⟨O7, hM7⟩ := HM6.out.next hx
      clear HS1 HM6 hx
      have hJ7 : ∃ va vc, (∀ w, (slO 27 (.slice (some ⟨lb, 0, none⟩) n n) (some (.int .i64 (s : Int))) none none).run Try.prog w = .ok (.slice va (n - s) vc) w) ∧ IsB w7 (.slice va (n - s) vc) ((mf n).drop s) ∧ ∀ b o k c', (Value.slice va (n - s) vc) = .slice (some ⟨b, o, none⟩) k c' → b ≠ d := sl_from hM7.row (mf_len n) s hsn hld
      obtain ⟨va, vc, RD, hBD, hnd⟩ := hJ7
      have hld2 : ((mf n).drop s).length = n - s := by rw [List.length_drop, mf_len]
      have HA2 := hd (append_is w7 d O7 _ nmA _ _ hM7.dk (by show (3 : Nat) < _; decide) hBD hnd)
      rw [append_st (by rw [hld2]; omega), hld2, List.take_append_drop, show s + (n - s) = n by omega] at HA2
      have HM7 := hd hM7
      clear hM7 hBD hnd
      go_wp2_with fail
      refine Calls.mono HA2.out ?_
      rintro e w8 ⟨rfl, hx⟩
      obtain ⟨O8, hM8⟩ := HM7.out.next hx
      clear HA2 HM7 hx RD
      have HU1 := hd (used_is w8 d O8 _ hM8.dk)
      have HCR := hd (crash_is w8 d O8 _ keep hM8.dk)
      rw [crash_st keep (by rw [mf_len]; exact hsn), mf_len] at HCR
      obtain ⟨t, ht⟩ : ∃ t, t = s + min keep.toNat (n - s) := ⟨_, rfl⟩
      rw [← ht] at HCR
      have htn : t ≤ n := by omega
      have HTT := hd ht
      have HM8 := hd hM8
      clear hM8 hls hld2 ht
      go_wp2_with fail
      refine Calls.mono HU1.out ?_
      rintro e w9 ⟨rfl, rfl⟩
      go_wp2_with fail
      refine Calls.mono HCR.out ?_
      rintro e w10 ⟨rfl, hx⟩
      obtain ⟨O10, hM10⟩ := HM8.out.next hx
      clear HU1 HCR HM8 hx
      by_cases hk0 : 0 < keep
      · by_cases hk1 : keep < (n : Int) - (s : Int)
        · have HE : Hid ((s : Int) + keep = ((t : Nat) : Int)) := by show _ = _; rw [HTT.out]; omega
          have HR := hd (read_is w10 d O10 _ nmA 0 (t : Int) hM10.dk (by show (4 : Nat) < _; decide))
          rw [read_st, bytes_st, List.take_take, Nat.min_self] at HR
          have hM10' := hd hM10
          clear hM10
          go_wp2_with fail
          rw [HE.out]
          refine Calls.mono HR.out ?_
          rintro e w11 ⟨v11, rfl, hK11, ht11, hj11, _, hl11⟩
          obtain ⟨O11, hM11⟩ := hM10'.out.next ⟨O10, hK11, ht11, fun b q => .inl q⟩
          have hJ11 := hj11 rfl
          obtain ⟨av, cv, rfl, _⟩ := hJ11.shape
          have hlt : ((mf n).take t).length = t := by rw [List.length_take, mf_len]; omega
          rw [hlt] at hJ11 ⊢
          obtain ⟨RT, hBT⟩ := run_slO_to (l := mf n) (by rw [mf_len]; exact hM11.row) (by rw [mf_len]; exact Nat.le_refl _) t (by rw [mf_len]; exact htn)
          rw [mf_len] at RT
          have HSB := hd (same_is _ _ _ _ w11 hJ11.isB hBT)
          rw [decide_eq_true rfl] at HSB
          have HM11 := hd hM11
          clear hK11 ht11 hj11 hl11 hJ11 hBT hM11 HR hlt
          go_wp2_with fail
          refine Calls.mono HSB.out ?_
          rintro e w12 ⟨rfl, nn, rfl⟩
          have hM12 : Mu w lb n d O11 (st 4194304 t 5 ((mf n).take t) t) (w11.drewN nn) := ⟨HM11.out.dk.keep (fun _ _ => rfl) (Nat.le_refl _), HM11.out.row, ⟨HM11.out.below.os, HM11.out.below.tape, HM11.out.below.output, HM11.out.below.size, HM11.out.below.block⟩, HM11.out.own, HM11.out.lo, HM11.out.lt⟩
          have HSZ := hd (size_is (w11.drewN nn) d O11 _ nmA hM12.dk)
          rw [size_st, look_st, List.length_take, mf_len, Nat.min_eq_left htn] at HSZ
          have HU := hd (used_is (w11.drewN nn) d O11 _ hM12.dk)
          rw [show (st 4194304 t 5 ((mf n).take t) t).used = t from rfl] at HU
          have HM12 := hd hM12
          clear hM12 HM11 HSB RT
          go_wp2_with fail
          refine Calls.mono HSZ.out ?_
          rintro e w13 ⟨rfl, rfl⟩
          go_wp2_with fail
          refine Calls.mono HU.out ?_
          rintro e w14 ⟨rfl, rfl⟩
          go_wp2_with fail
          go_ret
          exact ⟨rfl, HM12.out.below⟩
        · obtain rfl : n = t := by rw [HTT.out]; omega
          have HR := hd (read_is w10 d O10 _ nmA 0 (n : Int) hM10.dk (by show (4 : Nat) < _; decide))
          rw [read_st, bytes_st, List.take_take, Nat.min_self] at HR
          have hM10' := hd hM10
          clear hM10
          go_wp2_with fail
          refine Calls.mono HR.out ?_
          rintro e w11 ⟨v11, rfl, hK11, ht11, hj11, _, hl11⟩
          obtain ⟨O11, hM11⟩ := hM10'.out.next ⟨O10, hK11, ht11, fun b q => .inl q⟩
          have hJ11 := hj11 rfl
          obtain ⟨av, cv, rfl, _⟩ := hJ11.shape
          have hlt : ((mf n).take n).length = n := by rw [List.length_take, mf_len]; omega
          rw [hlt] at hJ11 ⊢
          obtain ⟨RT, hBT⟩ := run_slO_to (l := mf n) (by rw [mf_len]; exact hM11.row) (by rw [mf_len]; exact Nat.le_refl _) n (by rw [mf_len]; exact htn)
          rw [mf_len] at RT
          have HSB := hd (same_is _ _ _ _ w11 hJ11.isB hBT)
          rw [decide_eq_true rfl] at HSB
          have HM11 := hd hM11
          clear hK11 ht11 hj11 hl11 hJ11 hBT hM11 HR hlt
          go_wp2_with fail
          refine Calls.mono HSB.out ?_
          rintro e w12 ⟨rfl, nn, rfl⟩
          have hM12 : Mu w lb n d O11 (st 4194304 n 5 ((mf n).take n) n) (w11.drewN nn) := ⟨HM11.out.dk.keep (fun _ _ => rfl) (Nat.le_refl _), HM11.out.row, ⟨HM11.out.below.os, HM11.out.below.tape, HM11.out.below.output, HM11.out.below.size, HM11.out.below.block⟩, HM11.out.own, HM11.out.lo, HM11.out.lt⟩
          have HSZ := hd (size_is (w11.drewN nn) d O11 _ nmA hM12.dk)
          rw [size_st, look_st, List.length_take, mf_len, Nat.min_eq_left htn] at HSZ
          have HU := hd (used_is (w11.drewN nn) d O11 _ hM12.dk)
          rw [show (st 4194304 n 5 ((mf n).take n) n).used = n from rfl] at HU
          have HM12 := hd hM12
          clear hM12 HM11 HSB RT
          go_wp2_with fail
          refine Calls.mono HSZ.out ?_
          rintro e w13 ⟨rfl, rfl⟩
          go_wp2_with fail
          refine Calls.mono HU.out ?_
          rintro e w14 ⟨rfl, rfl⟩
          go_wp2_with fail
          go_ret
          exact ⟨rfl, HM12.out.below⟩
      · obtain rfl : s = t := by rw [HTT.out]; omega
        have HR := hd (read_is w10 d O10 _ nmA 0 (s : Int) hM10.dk (by show (4 : Nat) < _; decide))
        rw [read_st, bytes_st, List.take_take, Nat.min_self] at HR
        have hM10' := hd hM10
        clear hM10
        go_wp2_with fail
        refine Calls.mono HR.out ?_
        rintro e w11 ⟨v11, rfl, hK11, ht11, hj11, _, hl11⟩
        obtain ⟨O11, hM11⟩ := hM10'.out.next ⟨O10, hK11, ht11, fun b q => .inl q⟩
        have hJ11 := hj11 rfl
        obtain ⟨av, cv, rfl, _⟩ := hJ11.shape
        have hlt : ((mf n).take s).length = s := by rw [List.length_take, mf_len]; omega
        rw [hlt] at hJ11 ⊢
        obtain ⟨RT, hBT⟩ := run_slO_to (l := mf n) (by rw [mf_len]; exact hM11.row) (by rw [mf_len]; exact Nat.le_refl _) s (by rw [mf_len]; exact htn)
        rw [mf_len] at RT
        have HSB := hd (same_is _ _ _ _ w11 hJ11.isB hBT)
        rw [decide_eq_true rfl] at HSB
        have HM11 := hd hM11
        clear hK11 ht11 hj11 hl11 hJ11 hBT hM11 HR hlt
        go_wp2_with fail
        refine Calls.mono HSB.out ?_
        rintro e w12 ⟨rfl, nn, rfl⟩
        have hM12 : Mu w lb n d O11 (st 4194304 s 5 ((mf n).take s) s) (w11.drewN nn) := ⟨HM11.out.dk.keep (fun _ _ => rfl) (Nat.le_refl _), HM11.out.row, ⟨HM11.out.below.os, HM11.out.below.tape, HM11.out.below.output, HM11.out.below.size, HM11.out.below.block⟩, HM11.out.own, HM11.out.lo, HM11.out.lt⟩
        have HSZ := hd (size_is (w11.drewN nn) d O11 _ nmA hM12.dk)
        rw [size_st, look_st, List.length_take, mf_len, Nat.min_eq_left htn] at HSZ
        have HU := hd (used_is (w11.drewN nn) d O11 _ hM12.dk)
        rw [show (st 4194304 s 5 ((mf n).take s) s).used = s from rfl] at HU
        have HM12 := hd hM12
        clear hM12 HM11 HSB RT
        go_wp2_with fail
        refine Calls.mono HSZ.out ?_
        rintro e w13 ⟨rfl, rfl⟩
        go_wp2_with fail
        refine Calls.mono HU.out ?_
        rintro e w14 ⟨rfl, rfl⟩
        go_wp2_with fail
        go_ret
        exact ⟨rfl, HM12.out.below⟩
theorem walk (a0 : Int) (a1 : Int) (a2 : Int) (w : World) (w0 : (Lit.int .i64 a0).wf = true) (w1 : (Lit.int .i64 a1).wf = true) (w2 : (Lit.int .i64 a2).wf = true) :
    Calls Try.prog 3 #[.int .i64 a0, .int .i64 a1, .int .i64 a2] w fun e w' => e = .returned (.bool true) ∧ Below w.heap.size w w' := walkB a0 a1 a2 w (bounds_i64 w0) (bounds_i64 w1) (bounds_i64 w2)
set_option linter.unusedVariables false
set_option maxRecDepth 100000 in
theorem lifted (os : Os) (started : os.Started) (H : Type) (enc : TypeId × Value → H) :
    ReturnsInHanded {} Try.checked os 3 .any (Rows.diskMuchSpec.pre6 enc Try.prog Try.f3 Rows.diskMuchRow.domain false) (Rows.diskMuchSpec.post enc Try.prog Try.f3 false true false false) := by
  refine returnsInHanded_of_change (C := Try.checked) own started (by kernel_rfl) Try.func3
    (ChangeSpec.witness6 (enc := enc) (C := Try.checked) false ⟨#[], #[.int .i64 0, .int .i64 0, .int .i64 0], []⟩ 8 (by kernel_rfl) (by kernel_rfl) (by kernel_rfl) (by kernel_rfl)) ?_
  intro W base args ds gs before hval0 hW hcnd _
  have hval : ∀ (j : Nat) t v, Try.f3.params[j]? = some t → args[j]? = some v → Value.okWide Try.prog W .any base t v := hval0
  have hW' := hW
  obtain ⟨p, q, hA0, hV, rfl, hfz, hnd⟩ := hW
  have hA : DataW.TrodAll enc Try.prog W 0 (fun _ => true) true Try.f3.params.toList args.toList ds p := hA0
  rw [Try.params3] at hA hval
  obtain ⟨v0, vs0, d0, ds0, p0, q0, hargs, rfl, rfl, h0, r0⟩ := trodAll_cons hA
  obtain ⟨v1, vs1, d1, ds1, p1, q1, rfl, rfl, rfl, h1, r1⟩ := trodAll_cons r0
  obtain ⟨v2, vs2, d2, ds2, p2, q2, rfl, rfl, rfl, h2, r2⟩ := trodAll_cons r1
  obtain ⟨rfl, rfl, rfl⟩ := trodAll_nil r2
  obtain rfl : args = #[v0, v1, v2] := by cases args; simp_all
  obtain ⟨rfl, rfl⟩ := trodVars_none hV
  obtain ⟨a0, rfl, rfl, rfl, w0⟩ := open_int Try.underlying3 (hval 0 3 v0 rfl rfl) h0
  obtain ⟨a1, rfl, rfl, rfl, w1⟩ := open_int Try.underlying3 (hval 1 3 v1 rfl rfl) h1
  obtain ⟨a2, rfl, rfl, rfl, w2⟩ := open_int Try.underlying3 (hval 2 3 v2 rfl rfl) h2
  clear hA0 hval0
  refine (walk a0 a1 a2 W w0 w1 w2).mono fun e W' ⟨he, bel⟩ => ?_
  subst he
  exact ⟨_, rfl, _, _, _, [], _, [], hW', trodAll_mk1 (shut_bool Try.underlying4 _), (trodAll_cons_mk (shut_int Try.underlying3 w0) (trodAll_cons_mk (shut_int Try.underlying3 w1) (trodAll_cons_mk (shut_int Try.underlying3 w2) trodAll_mk0))), rfl, bel.frame _, fun h => by cases h⟩

theorem over : Rows.diskMuchRow.holds Try.pinned (OpenSpec.ofChange Rows.diskMuchSpec) :=
  OpenClaim.holds_of_wide 3 Try.f3 rfl rfl rfl rfl rfl rfl rfl ⟨rfl, rfl, rfl, rfl, rfl⟩ rfl rfl rfl rfl rfl (by kernel_rfl) Try.func3 (by kernel_rfl)
    (of_decide_eq_true (by kernel_rfl)) (by unfold Func.isWrapper; first | (rw [if_pos (by decide +kernel)]; kernel_rfl) | (rw [if_neg (by decide +kernel)]; exact ⟨rfl, rfl⟩))
    (fun os started H enc _ => lifted os started H enc)

end Dmw

theorem diskMuch_holds : Rows.DiskMuchSaid := Dmw.over
#print axioms diskMuch_holds
end Go.Proofs.Ytiooodhgndklkaa
