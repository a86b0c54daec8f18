/-
  THE WALK OF names.Sorted.
-/
import Derived.Test.YtglnhppgoomehabNq1
namespace Go.Proofs.Ytglnhppgoomehab
open Go.RowKit Go.Sort
namespace Nam
open Vt
/-- the classes in their order -/
def oc (k : Nat) : Nat := [1, 2, 3, 4, 0].getD k 0
theorem ix5 (w : World) (k : Nat) (hk : k < 5) : (Instr.index 52 (.agg #[.int .i64 1, .int .i64 2, .int .i64 3, .int .i64 4, .int .i64 0]) (.int .i64 (k : Int))).run Try.prog w = .ok (.int .i64 ((oc k : Nat) : Int)) w := by
  have : k = 0 ∨ k = 1 ∨ k = 2 ∨ k = 3 ∨ k = 4 := by omega
  rcases this with rfl | rfl | rfl | rfl | rfl <;> simp [Instr.index, asIntOf, run_underlying Try.underlying52, go_sem, oc]
/-- the first j groups -/
def acc (ss : List ByteArray) (j : Nat) : List ByteArray := (List.range j).flatMap fun t => grp (oc t) ss
theorem acc_succ (ss : List ByteArray) (j : Nat) : acc ss (j + 1) = acc ss j ++ grp (oc j) ss := by
  unfold acc
  rw [List.range_succ, List.flatMap_append]
  simp
theorem acc_five (ss : List ByteArray) : acc ss 5 = srt ss := by
  rw [acc_succ, acc_succ, acc_succ, acc_succ, acc_succ]
  simp only [List.append_assoc]
  rfl
theorem acc_mono (ss : List ByteArray) {j k : Nat} (h : j ≤ k) : (acc ss j).length ≤ (acc ss k).length := by
  induction h with
  | refl => exact Nat.le_refl _
  | step _ ih => rw [acc_succ, List.length_append]; omega
theorem acc_le (ss : List ByteArray) {j : Nat} (h : j ≤ 5) : (acc ss j).length ≤ ss.length := by
  have := acc_mono ss h
  rw [acc_five] at this
  exact Nat.le_trans this (srt_le ss)
theorem oc_lt {k : Nat} (h : k < 5) : oc k < 5 := by
  have : k = 0 ∨ k = 1 ∨ k = 2 ∨ k = 3 ∨ k = 4 := by omega
  rcases this with rfl | rfl | rfl | rfl | rfl <;> decide
theorem oc_inj {j k : Nat} (hj : j < 5) (hk : k < 5) (h : oc j = oc k) : j = k := by
  have h1 : j = 0 ∨ j = 1 ∨ j = 2 ∨ j = 3 ∨ j = 4 := by omega
  have h2 : k = 0 ∨ k = 1 ∨ k = 2 ∨ k = 3 ∨ k = 4 := by omega
  rcases h1 with rfl | rfl | rfl | rfl | rfl <;> rcases h2 with rfl | rfl | rfl | rfl | rfl <;> simp [oc] at h ⊢
/-- the names of a class -/
def fl (c : Nat) (ss : List ByteArray) : List ByteArray := ss.filter fun s => cls s = c
theorem fl_snoc (c : Nat) (ss : List ByteArray) (s : ByteArray) : fl c (ss ++ [s]) = if cls s = c then fl c ss ++ [s] else fl c ss := by
  unfold fl
  rw [List.filter_append]
  by_cases h : cls s = c
  · rw [if_pos h]; simp [h]
  · rw [if_neg h]; simp [h]
theorem fl_le (c : Nat) (ss : List ByteArray) : (fl c ss).length ≤ ss.length := List.length_filter_le _ _
/-- the box of five rows: what each holds, apart from one another -/
structure Box (w : World) (base B : Nat) (f : Nat → Value) (L : Nat → List ByteArray) (S : Nat → Prop) : Prop where
  blk : Blk w B 51 [f 0, f 1, f 2, f 3, f 4]
  row : ∀ c, c < 5 → S c → JS w base (f c) (L c)
  apart : ∀ c d g, c < 5 → d < 5 → c ≠ d → S c → S d → (f c).ownBlock = some g → (f d).ownBlock ≠ some g
theorem Box.cell {w : World} {base B : Nat} {f : Nat → Value} {L : Nat → List ByteArray} {S : Nat → Prop} (h : Box w base B f L S) {c : Nat} (hc : c < 5) : w.cell? ⟨B, c, none⟩ = some (f c) ∧ w.frozen? ⟨B, c, none⟩ = false := by
  refine ⟨h.blk.cell c _ ?_, h.blk.frozen c⟩
  have : c = 0 ∨ c = 1 ∨ c = 2 ∨ c = 3 ∨ c = 4 := by omega
  rcases this with rfl | rfl | rfl | rfl | rfl <;> rfl
/-- a row of strings is not the box -/
theorem Box.ne {w : World} {base B : Nat} {f : Nat → Value} {L : Nat → List ByteArray} {S : Nat → Prop} (h : Box w base B f L S) {v : Value} {l : List ByteArray} {b0 : Nat} (hJ : JS w b0 v l) {g : Nat} (hg : v.ownBlock = some g) : g ≠ B := by
  intro e
  obtain ⟨_, _, ⟨rfl, _⟩ | ⟨g', cap, cur, rfl, _, hh, _⟩⟩ := hJ
  · cases hg
  · have hgg : g' = g := by simpa [Value.ownBlock] using hg
    rw [hgg, e] at hh
    have h1 : w.heap[B]? = some (.cells [f 0, f 1, f 2, f 3, f 4].toArray 51 (0, 0)) := h.blk
    rw [hh] at h1
    injection h1 with h1
    injection h1 with h2 h3 h4
    cases h3
theorem Box.grown {w w' : World} {base B : Nat} {f : Nat → Value} {L : Nat → List ByteArray} {S S' : Nat → Prop} {r : Option Nat} (h : Box w base B f L S) (hg : w.grownBy w' r) (hB : some B ≠ r) (hS : ∀ c, S' c → S c) (hr : ∀ c g, c < 5 → S' c → (f c).ownBlock = some g → some g ≠ r) : Box w' base B f L S' :=
  ⟨h.blk.grown hg hB, fun c hc hs => (h.row c hc (hS c hs)).grownO hg (fun g hgg => hr c g hc hs hgg), fun c d g hc hd hcd h1 h2 hgg => h.apart c d g hc hd hcd (hS c h1) (hS d h2) hgg⟩
theorem list5_set (f : Nat → Value) (c : Nat) (hc : c < 5) (v : Value) : [f 0, f 1, f 2, f 3, f 4].set c v = [if 0 = c then v else f 0, if 1 = c then v else f 1, if 2 = c then v else f 2, if 3 = c then v else f 3, if 4 = c then v else f 4] := by
  have : c = 0 ∨ c = 1 ∨ c = 2 ∨ c = 3 ∨ c = 4 := by omega
  rcases this with rfl | rfl | rfl | rfl | rfl <;> rfl
theorem Box.put {w w2 : World} {base B c : Nat} {f : Nat → Value} {L : Nat → List ByteArray} {o : Obj} {v' : Value} {s : ByteArray} (h : Box w base B f L (fun _ => True)) (hc : c < 5) (hg : (w.alloc o).grownBy w2 (f c).ownBlock) (hJ : JS w2 base v' (L c ++ [s])) (hb : ∀ g, v'.ownBlock = some g → (f c).ownBlock = some g ∨ g = (w.alloc o).heap.size) :
    Box (w2.setCell ⟨B, c, none⟩ v') base B (fun d => if d = c then v' else f d) (fun d => if d = c then L c ++ [s] else L d) (fun _ => True) := by
  have ha : Box (w.alloc o) base B f L (fun _ => True) := ⟨h.blk.alloc o, fun c hc _ => (h.row c hc trivial).keepAll ((Below.refl _ _).alloc (Nat.le_refl _) _), h.apart⟩
  have hBne : some B ≠ (f c).ownBlock := fun e => h.ne (h.row c hc trivial) e.symm rfl
  have h2 : Box w2 base B f L (fun d => d ≠ c) := ha.grown hg hBne (fun _ _ => trivial) fun d g hd hdc hgg e => h.apart d c g hd hc hdc trivial trivial hgg e.symm
  refine ⟨?_, fun d hd _ => ?_, fun d e g hd he hde _ _ hgg => ?_⟩
  · have := h2.blk.set (j := c) v'
    rw [list5_set f c hc v'] at this
    exact this
  · by_cases hdc : d = c
    · subst hdc
      simp only [if_true]
      exact hJ.setO (fun g hgg e => h2.ne hJ hgg e) _
    · simp only [if_neg hdc]
      exact (h2.row d hd hdc).setO (fun g hgg e => h2.ne (h2.row d hd hdc) hgg e) _
  · have hlt : ∀ d g, d < 5 → (f d).ownBlock = some g → g < w.heap.size := fun d g hd hgg => (h.row d hd trivial).blk_lt g hgg
    have hsz : (w.alloc o).heap.size = w.heap.size + 1 := by simp
    by_cases hdc : d = c
    · subst hdc
      simp only [if_true] at hgg
      rw [if_neg (fun e => hde e.symm)]
      rcases hb g hgg with h1 | h1
      · exact h.apart d e g hd he hde trivial trivial h1
      · intro h3
        have := hlt e g he h3
        omega
    · rw [if_neg hdc] at hgg
      by_cases hec : e = c
      · subst hec
        simp only [if_true]
        intro h3
        rcases hb g h3 with h1 | h1
        · exact h.apart d e g hd he hde trivial trivial hgg h1
        · have := hlt d g hd hgg
          omega
      · rw [if_neg hec]
        exact h.apart d e g hd he hde trivial trivial hgg
theorem Box.after {w w2 : World} {base B c : Nat} {f : Nat → Value} {L : Nat → List ByteArray} {o : Obj} {v : Value} (h : Box w base B f L (fun _ => True)) (hc : c < 5) (hv : f c = v) (hg : (w.alloc o).grownBy w2 v.ownBlock) : (w.alloc o).grownBy w2 (f c).ownBlock ∧ w2.cell? ⟨B, c, none⟩ = some (f c) ∧ w2.frozen? ⟨B, c, none⟩ = false := by
  subst hv
  have ha : Box (w.alloc o) base B f L (fun _ => True) := ⟨h.blk.alloc o, fun c hc _ => (h.row c hc trivial).keepAll ((Below.refl _ _).alloc (Nat.le_refl _) _), h.apart⟩
  have hBne : some B ≠ (f c).ownBlock := fun e => h.ne (h.row c hc trivial) e.symm rfl
  have h2 : Box w2 base B f L (fun d => d ≠ c) := ha.grown hg hBne (fun _ _ => trivial) fun d g hd hdc hgg e => h.apart d c g hd hc hdc trivial trivial hgg e.symm
  exact ⟨hg, h2.cell hc⟩
theorem box_new (w : World) : Box (w.alloc (.cells #[.slice none 0 0, .slice none 0 0, .slice none 0 0, .slice none 0 0, .slice none 0 0] 51)) w.heap.size w.heap.size (fun _ => .slice none 0 0) (fun _ => []) (fun _ => True) :=
  ⟨Blk.new w _ _, fun _ _ _ => js_nil _ _, fun _ _ _ _ _ _ _ _ h => by cases h⟩
theorem Box.eq {w : World} {base B : Nat} {f : Nat → Value} {L L' : Nat → List ByteArray} {S : Nat → Prop} (h : Box w base B f L S) (e : ∀ c, c < 5 → L c = L' c) : Box w base B f L' S := ⟨h.blk, fun c hc hs => by rw [← e c hc]; exact h.row c hc hs, h.apart⟩
set_option maxRecDepth 100000 in
set_option maxHeartbeats 1000000 in
theorem sorted_is (v : Value) (ss : List ByteArray) (w : World) (hS : IsS w v ss) (hlen : ss.length * 16 ≤ 140737488355328) :
    Calls Try.prog 7 #[v] w fun e w' => (∃ v', e = .returned v' ∧ JS w' w.heap.size v' (srt ss)) ∧ Below w.heap.size w w' := by
  obtain ⟨a, cap, rfl⟩ := hS.shape
  have HS := hd hS
  clear hS
  go_enter Try.func7, Try.ntmps7
  go_wp2_with fail
  go_loopw [13] (fun i wr => ∃ (k : Nat) (f : Nat → Value), k ≤ ss.length ∧ i = .int .i64 (k : Int) ∧ Box wr w.heap.size w.heap.size f (fun c => fl c (ss.take k)) (fun _ => True) ∧ Below w.heap.size w wr) (fun i _ => ss.length - (intOf i).toNat)
  case atStart => exact ⟨0, _, by omega, rfl, box_new w, (Below.refl _ _).alloc (Nat.le_refl _) _⟩
  case round =>
    obtain ⟨k, f, hk, rfl, hX, hB⟩ := hrel
    have HX := hd hX
    have HB := hd hB
    clear hX hB
    by_cases hlt : k < ss.length
    · have hSr := HS.out.below HB.out rfl
      obtain ⟨b, off, ha, hbl, _, hcell, hsz⟩ := hSr.at hlt
      have HT := hd (take_succ_S hlt)
      clear hSr
      rw [ha]
      clear ha
      generalize ss.getD k ByteArray.empty = s at *
      have HLT : Hid (k + 1 ≤ ss.length) := hlt
      go_wp2_with fail
      refine Calls.mono (parse_is s _ hsz) ?_
      rintro e wr ⟨rfl, rfl⟩
      have hc5 : (prs (bl s)).1 < 5 := by have := prs_le (bl s); omega
      have HCL : Hid (cls s = (prs (bl s)).1) := rfl
      obtain ⟨hcb, hfb⟩ := HX.out.cell hc5
      have hrow := HX.out.row _ hc5 trivial
      generalize hcc : (prs (bl s)).1 = c at *
      clear hcc
      generalize (prs (bl s)).2 = n2 at *
      have hfl := fl_le c (ss.take k)
      rw [List.length_take] at hfl
      obtain ⟨a2, c2, e2, hle2⟩ := hrow.shape
      have HE2 := hd e2
      have HROW := hd hrow
      rw [e2] at hcb
      clear hrow e2
      go_wp2_with (at_builtin; refine wpList_append_ss _ rfl _ _ rfl w.heap.size (.slice a2 (fl c (ss.take k)).length c2) (.slice (some ⟨wr.heap.size, 0, none⟩) 1 1) (fl c (ss.take k)) [s] rfl rfl (by have := HROW.out; rw [HE2.out] at this; exact this.keepAll ((Below.refl _ _).alloc (Nat.le_refl _) _)) (lit_isS wr s _ _ rfl hsz) ((fl c (ss.take k)).length + 1) rfl (fl c (ss.take k) ++ [s]) rfl (by omega) (by omega) (by have := HB.out.size; simp; omega) ?_; intro a7 c7 w7 hJ7 hg7 hb7 hl7; obtain ⟨hg8, hc8, hf8⟩ := HX.out.after hc5 HE2.out hg7; have HG8 := hd hg8; have HJ7 := hd hJ7; have HB7 := hd hb7; clear hg7 hJ7 hb7 hl7 hg8)
      refine ⟨⟨k + 1, _, HLT.out, by go_num, (HX.out.put hc5 HG8.out HJ7.out (fun g hg => by rw [HE2.out]; exact HB7.out g hg)).eq (fun d _ => ?_), ?_⟩, by have := HLT.out; simp [intOf]; omega⟩
      · show (if d = c then fl c (ss.take k) ++ [s] else fl d (ss.take k)) = fl d (ss.take (k + 1))
        rw [HT.out, fl_snoc, HCL.out]
        by_cases hdc : d = c
        · subst hdc; simp only [if_true]
        · rw [if_neg hdc, if_neg (fun e => hdc e.symm)]
      · exact ((HB.out.alloc HB.out.size _).grown HG8.out (by have := HB.out.size; simp; omega) (fun q hq => HROW.out.blk_ge q hq)).setCell (Nat.le_refl _) _
    · have hli : ¬ ((k : Nat) : Int) < (ss.length : Int) := by omega
      rw [List.take_of_length_le (by omega)] at HX
      clear hlt hk
      go_wp2_with fail
      go_loopw [8, 32] (fun va i wx => ∃ (j : Nat) (a3 : Option Addr) (c3 : Nat), j ≤ 5 ∧ i = .int .i64 (j : Int) ∧ va = .slice a3 (acc ss j).length c3 ∧ JS wx w.heap.size va (acc ss j) ∧ Box wx w.heap.size w.heap.size f (fun c => fl c ss) (fun c => ∃ t, j ≤ t ∧ t < 5 ∧ oc t = c) ∧ (∀ t g, j ≤ t → t < 5 → (f (oc t)).ownBlock = some g → va.ownBlock ≠ some g) ∧ Below w.heap.size w wx) (fun _ i _ => 5 - (intOf i).toNat)
      case atStart => exact ⟨0, none, 0, by omega, rfl, rfl, js_nil _ _, ⟨HX.out.blk, fun c hc _ => HX.out.row c hc trivial, fun c d g hc hd hcd _ _ hg => HX.out.apart c d g hc hd hcd trivial trivial hg⟩, (fun _ _ _ _ _ h => by cases h), HB.out⟩
      case round =>
        obtain ⟨j, a3, c3, hj, rfl, rfl, hJ, hX2, hap, hB2⟩ := hrel
        have HJ := hd hJ
        have HX2 := hd hX2
        have HAP := hd hap
        have HB2 := hd hB2
        clear hJ hX2 hap hB2
        by_cases hj5 : j < 5
        · have hji : ((j : Nat) : Int) < 5 := by omega
          have hx5 := fun w => ix5 w j hj5
          have HOC : Hid (oc j < 5) := oc_lt hj5
          obtain ⟨hcb, _⟩ := HX2.out.cell HOC.out
          have hrow := HX2.out.row _ HOC.out ⟨j, Nat.le_refl _, hj5, rfl⟩
          obtain ⟨a4, c4, e4, hle4⟩ := hrow.shape
          have HE4 := hd e4
          rw [e4] at hcb hrow
          have HROW := hd hrow
          have hfl := fl_le (oc j) ss
          have hc5 : oc j < 5 := HOC.out
          clear e4 hrow
          go_wp2_with fail
          refine Calls.mono (sort_js wr w.heap.size _ (fl (oc j) ss) HROW.out (by omega)) ?_
          rintro e w1 ⟨rfl, hJ1, hg1⟩
          have HJ1 := hd hJ1
          have hX1 : Box w1 w.heap.size w.heap.size f (fun c => fl c ss) (fun c => ∃ t, j + 1 ≤ t ∧ t < 5 ∧ oc t = c) := by
            refine HX2.out.grown hg1 (fun e => HX2.out.ne HROW.out e.symm rfl) (fun c ⟨t, h1, h2, h3⟩ => ⟨t, by omega, h2, h3⟩) fun c g hc ⟨t, h1, h2, h3⟩ hgg e => ?_
            refine HX2.out.apart c (oc j) g hc hc5 (fun q => ?_) ⟨t, by omega, h2, h3⟩ ⟨j, Nat.le_refl _, hj5, rfl⟩ hgg ?_
            · have := oc_inj h2 hj5 (h3.trans q); omega
            · rw [HE4.out]; exact e.symm
          have hJa : JS w1 w.heap.size (.slice a3 (acc ss j).length c3) (acc ss j) := HJ.out.grownO hg1 fun g hgg e => HAP.out j g (Nat.le_refl _) hj5 (by rw [HE4.out]; exact e.symm) hgg
          have HX1 := hd hX1
          have HJA := hd hJa
          have HBE1 := hd (HROW.out.grown HB2.out (Nat.le_refl _) HB2.out.size hg1)
          have hcb1 := (hX1.cell hc5).1
          rw [HE4.out] at hcb1
          clear hJ1 hg1 hX1 hJa hcb
          go_wp2_with fail
          refine Calls.mono (compact_js w1 w.heap.size _ _ HJ1.out) ?_
          rintro e w2 ⟨⟨v5, rfl, hI5⟩, hg2⟩
          unfold fl at hI5
          rw [co_so] at hI5
          have HI5 := hd hI5
          have hX3 : Box w2 w.heap.size w.heap.size f (fun c => fl c ss) (fun c => ∃ t, j + 1 ≤ t ∧ t < 5 ∧ oc t = c) := by
            refine HX1.out.grown hg2 (fun e => HX1.out.ne HJ1.out e.symm rfl) (fun c h => h) fun c g hc ⟨t, h1, h2, h3⟩ hgg e => ?_
            refine HX2.out.apart c (oc j) g hc hc5 (fun q => ?_) ⟨t, by omega, h2, h3⟩ ⟨j, Nat.le_refl _, hj5, rfl⟩ hgg ?_
            · have := oc_inj h2 hj5 (h3.trans q); omega
            · rw [HE4.out]; exact e.symm
          have HX3 := hd hX3
          have HJ3 := hd (HJA.out.grownO hg2 fun g hgg e => HAP.out j g (Nat.le_refl _) hj5 (by rw [HE4.out]; exact e.symm) hgg)
          have HBE2 := hd (HJ1.out.grown HBE1.out (Nat.le_refl _) HBE1.out.size hg2)
          have hal := acc_le ss (show j + 1 ≤ 5 by omega)
          have HAS := hd (acc_succ ss j)
          have HAL : Hid ((acc ss j).length + (grp (oc j) ss).length = (acc ss (j + 1)).length) := by
            show (acc ss j).length + (grp (oc j) ss).length = (acc ss (j + 1)).length
            rw [HAS.out, List.length_append]
          clear hI5 hg2 hX3
          go_wp2_with (at_builtin; refine wpList_append_ss w2 rfl _ _ rfl w.heap.size (.slice a3 (acc ss j).length c3) v5 (acc ss j) (grp (oc j) ss) rfl rfl HJ3.out HI5.out (acc ss (j + 1)).length HAL.out (acc ss (j + 1)) HAS.out.symm (by omega) (by omega) HBE2.out.size ?_; intro a7 c7 w7 hJ7 hg7 hb7 hl7; have HJ7 := hd hJ7; have HG7 := hd hg7; have HB7 := hd hb7; clear hJ7 hg7 hb7 hl7)
          refine ⟨⟨j + 1, a7, c7, by omega, by go_num, rfl, HJ7.out, HX3.out.grown HG7.out (fun e => HX3.out.ne HJ3.out e.symm rfl) (fun c h => h) (fun c g hc ⟨t, h1, h2, h3⟩ hgg e => ?_), fun t g h1 h2 hgg e => ?_, HJ3.out.grown HBE2.out (Nat.le_refl _) HBE2.out.size HG7.out⟩, by simp [intOf]; omega⟩
          · rw [← h3] at hgg
            exact HAP.out t g (by omega) h2 hgg e.symm
          · rcases HB7.out g e with h3 | h3
            · exact HAP.out t g (by omega) h2 hgg h3
            · have := (HX3.out.row (oc t) (oc_lt h2) ⟨t, h1, h2, rfl⟩).blk_lt g hgg
              omega
        · have hji : ¬ ((j : Nat) : Int) < 5 := by omega
          have e5 : j = 5 := by omega
          have HJ5 : Hid (JS wr w.heap.size (.slice a3 (acc ss j).length c3) (srt ss)) := by
            show JS wr w.heap.size (.slice a3 (acc ss j).length c3) (srt ss)
            have := HJ.out
            rw [e5] at this ⊢
            rw [acc_five] at this ⊢
            exact this
          clear hj5 hj e5
          go_wp2_with fail
          go_ret
          exact ⟨⟨_, rfl, HJ5.out⟩, HB2.out⟩
end Nam
end Go.Proofs.Ytglnhppgoomehab
