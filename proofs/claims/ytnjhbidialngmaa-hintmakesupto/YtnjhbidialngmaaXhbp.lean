/-
  segment.Print: how many bytes, how many frames, the sum.
  hint.Of's function value; hint.footOf; hint.Of.
-/
import Derived.Test.YtnjhbidialngmaaXhbo
import Derived.Test.YtnjhbidialngmaaXhak
import Derived.Test.YtnjhbidialngmaaXhbl
import Derived.Test.YtnjhbidialngmaaXhan
namespace Go.Proofs.Ytnjhbidialngmaa
open Go.RowKit Go.Shelf
namespace Vt
attribute [local go_sem] Oper.semAt_some
theorem below_turned {n B : Nat} {X : Nat → Prop} {w V V' : World} (h : Below n w V) (hn : n ≤ w.heap.size) (ht : Turned X B V V') (hB : n ≤ B) (hX : ∀ k, X k → n ≤ k) : Below n w V' :=
  ⟨ht.os.trans h.os, ht.tape.trans h.tape, ht.output.trans h.output, Nat.le_trans h.size ht.size, fun k hk => by
    have h1 := h.block k hk
    obtain ⟨o, ho⟩ : ∃ o, V.heap[k]? = some o := by
      have : k < V.heap.size := Nat.lt_of_lt_of_le hk (Nat.le_trans hn h.size)
      exact ⟨_, Array.getElem?_eq_getElem this⟩
    rw [ht.block k o ho (fun x => by have := hX k x; omega) (.inr (by omega)), ← ho, h1]⟩
theorem boxed_turned {B Bn : Nat} {X : Nat → Prop} {V V' : World} {t : TypeId} {v : Value} (h : Boxed V Bn t v) (ht : Turned X B V V') (hX : ¬ X Bn) : Boxed V' Bn t v := ht.block Bn _ h hX (.inl rfl)
/-- a fingerprint's cells -/
def prv (n k s : Nat) : Array Value := #[.int .i64 (n : Int), .int .i64 (k : Int), .int .u32 (s : Int)]
/-- between two rounds -/
def PrI (N : Nat) (w : World) {α : Type} (pre : List α) (X : Nat → Prop) (V : World) : Prop :=
  (Boxed V (N + 1) 3 (.int .i64 (pre.length : Int)) ∧ Blk V N 30 [.int .i64 0, .int .i64 0, .int .u32 0]) ∧ Below N w V ∧ N + 3 ≤ V.heap.size ∧ (∀ k, X k → N + 3 ≤ k)
theorem prI_abides {N : Nat} {w : World} (hN : N = w.heap.size) {α : Type} : AbidesX (N + 3) (PrI N w (α := α)) := by
  rintro s X X' V V' ⟨⟨h0, h1⟩, h2, h3, h4⟩ ht hX
  refine ⟨⟨boxed_turned h0 ht (fun x => by have := h4 _ x; omega), ht.block N _ h1 (fun x => by have := h4 _ x; omega) (.inl rfl)⟩, below_turned h2 (by omega) ht (by omega) (fun k hk => by have := h4 k hk; omega), Nat.le_trans h3 ht.size, fun k hk => ?_⟩
  rcases hX k hk with h | h
  · exact h4 k h
  · omega
set_option maxRecDepth 100000 in
set_option maxHeartbeats 2000000 in
theorem print_is (v : Value) (l : List Nat) (w : World) (hI : IsB w v l) :
    Calls Try.prog 66 #[v] w fun e w' => e = .returned (.agg (prv l.length (locs 0 l).length (Crc.go 0 l))) ∧ Below w.heap.size w w' := by
  obtain ⟨a, c, rfl⟩ := hI.shape
  have HI := hd hI
  clear hI
  refine (callsIn_wide (n := 8)).1 ?_
  refine callsIn_of_wp_marks Try.func66 rfl trivial (Code.wpIn_mono bodyPostF_M ?_) rfl
  simp only [Try.ntmps66, List.size_toArray, List.length_cons, List.length_nil, Nat.reduceAdd, Nat.reduceSub, Array.replicate_succ, Array.replicate_zero, List.push_toArray, List.append_toArray, List.nil_append, List.cons_append]
  gi_wp2
  refine ⟨trivial, CallsIn.mono (callsIn_wide.2 (frames_is _ _ _ _)) ?_⟩
  rintro e w4 ⟨rfl, hw4⟩
  obtain ⟨N, hN⟩ : ∃ N, N = w.heap.size := ⟨_, rfl⟩
  have hs4 : w4.heap.size = N + 3 := by rw [hw4, hN]; simp
  have hB4 : Hid (Below w.heap.size w w4) := by rw [hw4]; exact (((Below.refl _ _).alloc (Nat.le_refl _) _).alloc (by simp) _).alloc (by simp; omega) _
  have BP4 : Hid (Blk w4 N 30 [.int .i64 0, .int .i64 0, .int .u32 0]) := by rw [hw4, hN]; exact ((Blk.new w 30 [.int .i64 0, .int .i64 0, .int .u32 0]).alloc _).alloc _
  have BE4 : Hid (Boxed w4 (N + 1) 3 (.int .i64 0)) := by
    have := Boxed.new (w.alloc (.cells #[.int .i64 0, .int .i64 0, .int .u32 0] 30)) 3 (.int .i64 0)
    rw [World.size_alloc, ← hN] at this
    rw [hw4]; exact this.alloc _
  have BB4 : Hid (Boxed w4 (N + 2) 36 (.slice a l.length c)) := by
    have := Boxed.new ((w.alloc (.cells #[.int .i64 0, .int .i64 0, .int .u32 0] 30)).alloc (.cells #[.int .i64 0] 3)) 36 (.slice a l.length c)
    rw [World.size_alloc, World.size_alloc, ← hN] at this
    rw [hw4]; exact this
  simp only [World.size_alloc]
  rw [← hN] at hB4 ⊢
  have HN := hd hN
  have HIL : Hid (∀ b off c', l ≠ [] → Value.slice a l.length c = .slice (some ⟨b, off, none⟩) l.length c' → b < N) := fun b off c' hne e => by
    obtain ⟨_, _, ⟨rfl, _⟩ | ⟨nb, no, nc, e1, _, _, hnb, hnr⟩⟩ := HI.out
    · exact absurd rfl hne
    · rw [e] at e1; injection e1 with e1 e2 e3; injection e1 with e1; injection e1 with e1 e4; omega
  have hseq := frames_seq (fun k => k < N) (N + 1 + 1) (.slice a l.length c) l w4 (by omega) (fun k hk => by omega) BB4.out.cell (HI.out.below (hN ▸ hB4.out)) (fun b off c' hne e => HIL.out b off c' hne e)
  have HSQ := hd hseq
  clear hseq hw4 hN
  gi_wp2
  rename_i K hK
  have HK := hd hK
  clear hK
  have hll := locs_len HI.out.1 _ (Nat.le_refl _) 0
  have hl47 := HI.out.2.1
  refine wpIn_rangeFunc_X (gf := 99) (lb := #[.pointer (some ⟨N + 1 + 1, 0, none⟩)]) rfl (enters_of Try.func99 (by kernel_rfl) rfl) HSQ.out (fun k hk => by omega) (Below.refl _ _) (fun _ => rfl)
    (PrI N w) (fun _ _ _ _ => False) (hs4 ▸ prI_abides HN.out) (fun _ _ _ _ _ _ h _ _ => h) ⟨⟨BE4.out, BP4.out⟩, hB4.out, by omega, fun _ h => h.elim⟩
    (fun (x : PL l.length) a' V => a' = { tmps := #[Value.slice a l.length c, undef, Value.pointer (some { block := N, off := 0 }), Value.pointer (some { block := N + 1, off := 0 }), Value.slice a l.length c, Value.func (Fn.func 99) #[] #[Value.pointer (some { block := N + 1 + 1, off := 0 })], .int .i64 (x.1.1 : Int), .agg (frv x.1.2.2).toArray, undef, undef, undef, undef, undef, undef, undef, undef, undef], defers := [] })
    (fun x a' _ V V' row hs hg hr => hs)
    ?assign ?body ?done ?stop
  case assign =>
    rintro lk pre ⟨⟨x1, x2, f⟩, hx⟩ X V K hi hX hK
    simp only [enc2]
    gi_wp2
    exact hK _ _ (KeepsFrom.refl _ _) (KeepS.refl _) hi rfl
  case body =>
    rintro lk pre ⟨⟨x1, x2, f⟩, hx⟩ X a' V hlk _ hX ⟨⟨b1, b2⟩, h2, h3, h4⟩ rfl hlen
    have q1 := b1.cell
    have q2 := b1.frozen
    have HB1 := hd b1
    have HB2 := hd b2
    have hw1 : wrap64 ((pre.length : Int) + 1) = (((pre ++ [(⟨(x1, x2, f), hx⟩ : PL l.length)]).length : Nat) : Int) := by
      have : (pre.length : Int) + 1 < 9223372036854775808 := by have := hl47; unfold maxLen at this; omega
      rw [List.length_append, List.length_singleton]
      unfold wrap64
      omega
    have HW1 := hd hw1
    clear b1 b2 hw1
    gi_wp2
    rw [HW1.out]
    refine ⟨(KeepsOthers.setCell _ _ _).from _, (KeepS.refl _).setCell (p := ⟨N + 1, 0, none⟩) (fun h => ?_) _, ⟨HB1.out.set _, HB2.out.other (by show N + 1 ≠ N; omega) _⟩, h2.setCell (p := ⟨N + 1, 0, none⟩) (by show N ≤ N + 1; omega) _, by simp [World.setCell]; omega, h4⟩
    rcases h with h | h
    · have h' : N + 1 < N := h; omega
    · have := h4 _ h; have h' : N + 3 ≤ N + 1 := this; omega
  case done =>
    rintro D ys X V hD hys ⟨⟨b1, b2⟩, h2, h3, h4⟩ hKD
    have hyl : ys.length = (locs 0 l).length := by rw [← hys, List.length_map]
    rw [hyl] at b1
    gi_wp2
    refine HK.out _ _ ?_
    clear HK
    refine wpIn_wide.2 ?_
    have hmx : Try.prog.follows .mixedOrders = true := by kernel_rfl
    have q1 := b1.cell
    have q2 := b2.cell 0 _ rfl
    have q3 := b2.cell 1 _ rfl
    have q4 := b2.cell 2 _ rfl
    have HKD := hd hKD
    have HB1 := hd b1
    have HB2 := hd b2
    have HV2 := hd h2
    have HS : Hid (∀ m : Nat, Calls Try.prog 28 #[.slice (some ⟨V.heap.size, 0, none⟩) 1 1] ((V.drewN m).alloc (.cells #[.slice a l.length c] 36)) fun e w' => e = .returned (.int .u32 ((Crc.go 0 l : Nat) : Int)) ∧ Boxed w' (N + 1) 3 (.int .i64 ((locs 0 l).length : Int)) ∧ Blk w' N 30 [.int .i64 0, .int .i64 0, .int .u32 0] ∧ Below N w w' ∧ w'.heap[D]? = some (.deferred (some []))) := fun m => by
      have hbU : Below V.heap.size V (V.drewN m) := below_drewN (Below.refl _ _) m
      refine (sum_one (V.drewN m) V.heap.size rfl (.slice a l.length c) l ((HI.out.below (HN.out ▸ h2)).below hbU)).mono ?_
      rintro e w3 ⟨rfl, h⟩
      have h3' := hbU.trans h
      refine ⟨rfl, boxed_below HB1.out (by omega) h3', (h3'.block N (by omega)).trans HB2.out, h2.trans (h3'.mono (by omega)), (h3'.block D ?_).trans HKD.out⟩
      exact (Array.getElem?_eq_some_iff.1 HKD.out).1
    have nn1 : ¬ N + 1 = V.heap.size := by omega
    have nn2 : ¬ V.heap.size = N + 1 := by omega
    have nn3 : N + 1 < V.heap.size := by omega
    clear b1 b2 h2 hKD hyl hys
    go_wp2_with fail
    go_region_with (go_at_call 28; refine Calls.mono (HS.out _) ?_; rintro e w3 ⟨rfl, hb3, hB3, hbl3, hd3⟩; have z1 := hb3.cell; have z2 := hB3.cell 0 _ rfl; have z3 := hB3.cell 1 _ rfl; have z4 := hB3.cell 2 _ rfl; have z5 := hB3.frozen 0; have z6 := hB3.frozen 1; have z7 := hB3.frozen 2; have HZ1 := hd hb3; have HZ2 := hd hB3; have HZ3 := hd hbl3; have HZ4 := hd hd3; clear hb3 hB3 hbl3 hd3)
    all_goals
      go_wp2
      have hN' := HN.out
      have k1 := (((KeepsOthers.setCell w3 ⟨N, 0, none⟩ (.int .i64 (l.length : Int))).trans (KeepsOthers.setCell _ ⟨N, 1, none⟩ (.int .i64 ((locs 0 l).length : Int)))).trans (KeepsOthers.setCell _ ⟨N, 2, none⟩ (.int .u32 ((Crc.go 0 l : Nat) : Int)))).same D _ HZ4.out rfl
      have k2 := ((HZ2.out.set (j := 0) (.int .i64 (l.length : Int))).set (j := 1) (.int .i64 ((locs 0 l).length : Int))).set (j := 2) (.int .u32 ((Crc.go 0 l : Nat) : Int))
      have k3 : (((((w3.setCell ⟨N, 0, none⟩ (.int .i64 (l.length : Int))).setCell ⟨N, 1, none⟩ (.int .i64 ((locs 0 l).length : Int))).setCell ⟨N, 2, none⟩ (.int .u32 ((Crc.go 0 l : Nat) : Int)))).putObj D (.deferred none)).heap[N]? = some (.cells #[.int .i64 (l.length : Int), .int .i64 ((locs 0 l).length : Int), .int .u32 ((Crc.go 0 l : Nat) : Int)] 30 (0, 0)) := (World.putObj_heap_other (by omega)).trans k2
      refine ⟨by simp, .inl ⟨_, _, rfl, run_takeDeferred k1, ?_⟩⟩
      refine ⟨_, results_cell_row rfl _ _ N 30 _ (0, 0) _ rfl k3 Try.underlying30 rfl (by kernel_rfl), rfl, ?_⟩
      rw [← hN']
      exact (((HZ3.out.setCell (p := ⟨N, 0, none⟩) (Nat.le_refl _) _).setCell (p := ⟨N, 1, none⟩) (Nat.le_refl _) _).setCell (p := ⟨N, 2, none⟩) (Nat.le_refl _) _).trans (belowK_b (w := w) (by omega) _ D _ _ (by omega) k1 rfl rfl)
  case stop =>
    rintro D c2 pre X V hD hp hj
    exact hj.elim
end Vt
end Go.Proofs.Ytnjhbidialngmaa
namespace Go.Proofs.Ytnjhbidialngmaa
open Go.RowKit Go.Shelf
namespace Vt
attribute [local go_sem] Oper.semAt_some
attribute [local go_sem ↓] append_hide
set_option maxRecDepth 100000 in
set_option maxHeartbeats 2000000 in
theorem of1_no (f : Fr) (at_ len : Int) (p : Value) (W : World) (h : isRec f = false) :
    Calls Try.prog 39 #[.agg (lfv f at_ len), p] W fun e W' => e = .returned (.bool false) ∧ Below W.heap.size W W' := by
  have HH : Hid (∀ w, Calls Try.prog 40 #[.agg (fv f)] w fun e w' => e = .returned (.bool false) ∧ Below w.heap.size w w') := fun w => h ▸ hasRecord_is f w
  clear h
  obtain ⟨k, ⟨rl, rk, rkey, rval⟩, ⟨pl, pk, pa, pn, pkey⟩, ⟨ec, eb, ef, es⟩⟩ := f
  simp only [lfv, fv] at HH ⊢
  go_enter Try.func39, Try.ntmps39
  go_wp2_with fail
  refine Calls.mono (HH.out _) ?_
  rintro e w1 ⟨rfl, hb⟩
  have HB := hd hb
  clear hb HH
  go_wp2_with fail
  go_ret
  exact ⟨rfl, ((Below.refl _ _).alloc (Nat.le_refl _) _).trans (HB.out.mono (by simp))⟩
theorem en_small {f : Fr} (hw : f.Wf) (h : rf f = 0) : (en f).length ≤ 5000 := by
  have h1 := (bd_len hw h).1
  have h2 := (wr_len (bd f)).2
  rw [en_len]
  omega
set_option maxRecDepth 100000 in
set_option maxHeartbeats 2000000 in
theorem of1_yes (f : Fr) (at_ len : Int) (Bf base : Nat) (vf : Value) (bs : List Nat) (W : World) (h : isRec f = true) (hr : rf (hfr (ptr f at_ len)) = 0) (hw : (hfr (ptr f at_ len)).Wf)
    (hB : Boxed W Bf 36 vf) (hJ : JB W base vf bs) (hbase : base ≤ W.heap.size) (hl : bs.length ≤ 1000000000000) :
    Calls Try.prog 39 #[.agg (lfv f at_ len), .pointer (some ⟨Bf, 0, none⟩)] W fun e W' => e = .returned (.bool true) ∧ ∃ vf', Boxed W' Bf 36 vf' ∧ JB W' base vf' (bs ++ en (hfr (ptr f at_ len))) ∧ (∀ n w0, n ≤ Bf → n ≤ base → Below n w0 W → Below n w0 W') := by
  have HH : Hid (∀ w, Calls Try.prog 40 #[.agg (fv f)] w fun e w' => e = .returned (.bool true) ∧ Below w.heap.size w w') := fun w => h ▸ hasRecord_is f w
  have HP := hd (pointerTo_is f at_ len)
  have HW := hd (fun w => written_is (hfr (ptr f at_ len)) w hw hr)
  have hes := en_small hw hr
  obtain ⟨el, hel⟩ : ∃ el, el = en (hfr (ptr f at_ len)) := ⟨_, rfl⟩
  rw [← hel] at HW hes ⊢
  have HBX := hd hB
  have HJX := hd hJ
  clear h hB hJ hr hw hel
  obtain ⟨k, ⟨rl, rk, rkey, rval⟩, ⟨pl, pk, pa, pn, pkey⟩, ⟨ec, eb, ef, es⟩⟩ := f
  simp only [lfv, fv, ptr, hfr, pv, zr, ze] at HH HP HW ⊢
  go_enter Try.func39, Try.ntmps39
  go_wp2_with fail
  refine Calls.mono (HH.out _) ?_
  rintro e w1 ⟨rfl, hb⟩
  have HB := hd hb
  have HL := hd ((Blk.new W 72 _).keep hb)
  have cL0 := HL.out.cell 0 _ rfl
  have cL1 := HL.out.cell 1 _ rfl
  have cL2 := HL.out.cell 2 _ rfl
  have cL3 := HL.out.cell 3 _ rfl
  have cL4 := HL.out.cell 4 _ rfl
  have cL5 := HL.out.cell 5 _ rfl
  have cL6 := HL.out.cell 6 _ rfl
  have cL7 := HL.out.cell 7 _ rfl
  have cL8 := HL.out.cell 8 _ rfl
  have cL9 := HL.out.cell 9 _ rfl
  have cL10 := HL.out.cell 10 _ rfl
  have cL11 := HL.out.cell 11 _ rfl
  have cL12 := HL.out.cell 12 _ rfl
  have cL13 := HL.out.cell 13 _ rfl
  have cL14 := HL.out.cell 14 _ rfl
  have cL15 := HL.out.cell 15 _ rfl
  have hb0 : Below W.heap.size W w1 := below_alloc1 hb
  have HBX1 := hd (boxed_below HBX.out (by exact (Array.getElem?_eq_some_iff.1 HBX.out).1) hb0)
  have HJX1 := hd (HJX.out.keepAll hb0)
  have q0 := HBX1.out.cell
  have hle := hb0.size
  have HB0 := hd hb0
  have HP1 : Hid (∀ m, Calls Try.prog 42 #[.agg #[.int .i64 k, .int .u64 (rl : Int), .int .i64 rk, .string rkey, .string rval, .int .u64 (pl : Int), .int .i64 pk, .int .i64 pa, .int .i64 pn, .string pkey, .int .i64 ec, .int .i64 eb, .int .i64 ef, .int .u32 (es : Int), .int .i64 at_, .int .i64 len]] (w1.drewN m) fun e w' => e = .returned (.agg #[.int .u64 (rl : Int), .int .i64 rk, .int .i64 at_, .int .i64 len, .string rkey]) ∧ Below w1.heap.size w1 w') := fun m => (HP.out _).mono fun e w' ⟨h1, h2⟩ => ⟨h1, (below_drewN (Below.refl _ _) m).trans h2⟩
  clear hb hb0 HH HP HB
  go_wp2_with fail
  go_region_with (first
    | (go_at_call 42; refine Calls.mono (HP1.out _) ?_; rintro e w2 ⟨rfl, hb2⟩; have q2 := (boxed_below HBX1.out (Array.getElem?_eq_some_iff.1 HBX1.out).1 hb2).cell; have HB2 := hd hb2; clear hb2)
    | (go_at_call 41; refine Calls.mono (HW.out _) ?_; rintro e w3 ⟨u, rfl, hj3, hb3⟩; have hb13 := HB2.out.trans (hb3.mono HB2.out.size); have hbx3 := boxed_below HBX1.out (Array.getElem?_eq_some_iff.1 HBX1.out).1 hb13; have hjx3 := HJX1.out.keepAll hb13; have hs13 := hb13.size; obtain ⟨a', cap, w4, hr, hJ4, hg4⟩ := run_append_jb 36 w3 base vf u bs el hjx3 hj3.isB (by omega) (by omega); have hr' : (apH #[36, 36] 36 #[vf, u]).run Try.prog w3 = .ok (.slice a' (bs.length + el.length) cap) w4 := hr; have hbx4 := hbx3.kept hg4 (Boxed.not_row hbx3 (by decide) hjx3.2); have q3 := hbx3.cell; have q4 := hbx4.cell; have q5 := hbx4.frozen; have HBX4 := hd hbx4; have HJ4 := hd hJ4; have HG4 : Hid (∀ n w0, n ≤ base → Below n w0 W → Below n w0 w4) := (fun n w0 h1 h2 => JB.grown hjx3 ((h2.trans (HB0.out.mono (by omega))).trans (hb13.mono (by omega))) h1 (by omega) hg4); clear hj3 hb3 hb13 hbx3 hjx3 hr hJ4 hg4 hbx4))
  all_goals
    go_wp2_with fail
    go_ret
    refine ⟨rfl, .slice a' (bs.length + el.length) cap, HBX4.out.set _, ?_, fun n w0 h1 h2 h3 => (HG4.out n w0 h2 h3).setCell (p := ⟨Bf, 0, none⟩) h1 _⟩
    have hne := Boxed.not_row HBX4.out (by decide) HJ4.out.2
    exact JK.setO (k := .u8) (M := 256) HJ4.out (p := ⟨Bf, 0, none⟩) (fun g hg e => hne (by rw [hg, e])) _
end Vt
end Go.Proofs.Ytnjhbidialngmaa
