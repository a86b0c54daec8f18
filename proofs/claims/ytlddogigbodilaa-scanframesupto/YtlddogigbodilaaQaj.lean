/-
  THE READER OF A BODY (frame.reader): kind, number, text, rest: what 'rKind', 'rNum', 'rText', 'rRest' say; all blocks but the reader's own stay.
-/
import Derived.Test.YtlddogigbodilaaQae
import Derived.Test.YtlddogigbodilaaQaf
import Derived.Test.YtlddogigbodilaaQai
import Derived.Test.YtlddogigbodilaaQac
namespace Go.Proofs.Ytlddogigbodilaa
open Go.RowKit
namespace Vt
/-- all blocks that were there, but one, stay -/
structure KeepO (B : Nat) (w w' : World) : Prop where
  os : w'.os = w.os
  tape : w'.tape = w.tape
  output : w'.output = w.output
  size : w.heap.size ≤ w'.heap.size
  block : ∀ k, k < w.heap.size → k ≠ B → w'.heap[k]? = w.heap[k]?
theorem KeepO.refl (B : Nat) (w : World) : KeepO B w w := ⟨rfl, rfl, rfl, Nat.le_refl _, fun _ _ _ => rfl⟩
theorem KeepO.trans {B : Nat} {a b c : World} (h : KeepO B a b) (k : KeepO B b c) : KeepO B a c :=
  ⟨k.os.trans h.os, k.tape.trans h.tape, k.output.trans h.output, Nat.le_trans h.size k.size, fun i hi hb => (k.block i (Nat.lt_of_lt_of_le hi h.size) hb).trans (h.block i hi hb)⟩
theorem KeepO.below {B n : Nat} {a b : World} (h : KeepO B a b) (hn : n ≤ B) (hn2 : n ≤ a.heap.size) : Below n a b := ⟨h.os, h.tape, h.output, h.size, fun i hi => h.block i (by omega) (by omega)⟩
theorem KeepO.of_below {B : Nat} {a b : World} (h : Below a.heap.size a b) : KeepO B a b := ⟨h.os, h.tape, h.output, h.size, fun i hi _ => h.block i hi⟩
theorem KeepO.alloc (B : Nat) (w : World) (o : Obj) : KeepO B w (w.alloc o) := KeepO.of_below ((Below.refl _ _).alloc (Nat.le_refl _) o)
theorem KeepO.set (B j : Nat) (w : World) (v : Value) : KeepO B w (w.setCell ⟨B, j, none⟩ v) := by
  have hb : Below B w (w.setCell ⟨B, j, none⟩ v) := (Below.refl _ _).setCell (p := ⟨B, j, none⟩) (Nat.le_refl _) v
  refine ⟨hb.os, hb.tape, hb.output, hb.size, fun k hk hne => ?_⟩
  show (w.heap.modify B _)[k]? = _
  rw [Array.getElem?_modify, if_neg (fun q => hne q.symm)]
theorem Blk.keepO {W W' : World} {O B : Nat} {T : TypeId} {cs : List Value} (h : Blk W O T cs) (hO : O ≠ B) (hb : KeepO B W W') : Blk W' O T cs := (hb.block O h.lt hO).trans h
theorem IsK.keepO {k : IntKind} {M B : Nat} {w w' : World} {v : Value} {l : List Nat} (h : IsK k M w v l) (hv : ∀ b off n c, v = .slice (some ⟨b, off, none⟩) n c → b ≠ B) (hb : KeepO B w w') : IsK k M w' v l := by
  obtain ⟨h1, h2, ⟨rfl, a, c, rfl⟩ | ⟨b, off, c, rfl, h3, h4, h5, h6⟩⟩ := h
  · exact ⟨h1, h2, .inl ⟨rfl, a, c, rfl⟩⟩
  · refine ⟨h1, h2, .inr ⟨b, off, c, rfl, h3, h4, Nat.lt_of_lt_of_le h5 hb.size, fun j hj => ?_⟩⟩
    rw [World.cell?_of_block (a := ⟨b, off + j, none⟩) (hb.block b h5 (hv _ _ _ _ rfl))]; exact h6 j hj
def Low (v : Value) (B : Nat) : Prop := ∀ a n c, v = .slice (some a) n c → a.block < B ∧ a.spot = none
theorem low_some {b off n c B : Nat} (h : b < B) : Low (.slice (some ⟨b, off, none⟩) n c) B := by
  intro a m d e
  injection e with e1
  injection e1 with e1
  subst e1
  exact ⟨h, rfl⟩
theorem low_none {n c B : Nat} : Low (.slice none n c) B := by
  intro a m d e
  cases e
/-- the reader lies in block B, in a state -/
def RDs (w : World) (B : Nat) (s : RS) : Prop := ∃ v, Blk w B 155 [v, .bool s.2] ∧ IsB w v s.1 ∧ Low v B
theorem RDs.lt {w : World} {B : Nat} {s : RS} (h : RDs w B s) : B < w.heap.size := by
  obtain ⟨v, h1, _⟩ := h
  exact h1.lt
theorem RDs.byt {w : World} {B : Nat} {s : RS} (h : RDs w B s) : Byt s.1 := by
  obtain ⟨v, _, h2, _⟩ := h
  exact h2.1
theorem RDs.below {w w' : World} {B : Nat} {s : RS} (h : RDs w B s) (hb : Below w.heap.size w w') : RDs w' B s := by
  obtain ⟨v, h1, h2, h3⟩ := h
  exact ⟨v, h1.keep hb, h2.below hb, h3⟩
theorem RDs.alloc {w : World} {B : Nat} {s : RS} (h : RDs w B s) (o : Obj) : RDs (w.alloc o) B s := h.below ((Below.refl _ _).alloc (Nat.le_refl _) o)
theorem RDs.setO {w : World} {B : Nat} {s : RS} (h : RDs w B s) {p : Addr} (hp : B < p.block) (u : Value) : RDs (w.setCell p u) B s := by
  obtain ⟨v, h1, h2, h3⟩ := h
  exact ⟨v, h1.other (by omega) u, h2.setO (fun b off n c e => by have := (h3 _ _ _ e).1; simp only at this; omega) u, h3⟩
/-- it is broken -/
theorem RDs.broke {w : World} {B : Nat} {l : List Nat} {b : Bool} (h : RDs w B (l, b)) : RDs (w.setCell ⟨B, 1, none⟩ (.bool true)) B (l, true) := by
  obtain ⟨v, h1, h2, h3⟩ := h
  refine ⟨v, h1.set (j := 1) (.bool true), h2.setO (p := ⟨B, 1, none⟩) (fun b off n c e => by have := (h3 _ _ _ e).1; simp only at this; show b ≠ B; omega) _, h3⟩
/-- it goes on -/
theorem RDs.moved {w : World} {B : Nat} {br : Bool} {v : Value} (h1 : Blk w B 155 [v, .bool br]) {u : Value} {r : List Nat} (h2 : IsB w u r) (h3 : Low u B) : RDs (w.setCell ⟨B, 0, none⟩ u) B (r, br) :=
  ⟨u, h1.set (j := 0) u, h2.setO (p := ⟨B, 0, none⟩) (fun b off n c e => by have := (h3 _ _ _ e).1; simp only at this; show b ≠ B; omega) _, h3⟩
set_option maxRecDepth 100000 in
set_option maxHeartbeats 400000 in
theorem number_is' (B m : Nat) (s : RS) (w : World) (hR : RDs w B s) :
    Calls Try.prog 114 #[.pointer (some ⟨B, 0, none⟩), .int .u64 (m : Int)] w fun e w' => e = .returned (.int .u64 ((rNum m s).1 : Int)) ∧ RDs w' B (rNum m s).2 ∧ KeepO B w w' := by
  have HR := hd hR
  obtain ⟨l, br⟩ := s
  obtain ⟨v, h1, h2, h3⟩ := hR
  obtain ⟨a, c, rfl⟩ := h2.shape
  have hc0 := h1.cell 0 _ rfl
  have hc1 := h1.cell 1 _ rfl
  have hf0 := h1.frozen 0
  have hf1 := h1.frozen 1
  have HC := hd (decode_is _ l w h2)
  have H1 := hd h1
  have H2 := hd h2
  have H3 := hd h3
  have hby := h2.1
  simp only at *
  clear h1 h2 h3
  obtain ⟨n, k, er, hdd⟩ : ∃ n k er, dec l = (n, k, er) := ⟨_, _, _, rfl⟩
  rw [hdd] at HC
  unfold ans at HC
  by_cases he : er = 0
  · subst he
    obtain ⟨d1, d2, d3, d4, d5, d6⟩ := dec_ok hby hdd
    by_cases hnm : n ≤ m
    · have HN : Hid (rNum m (l, br) = (n, (l.drop k, br))) := by
        show rNum m (l, br) = _
        unfold rNum
        simp only [hdd]
        rw [if_pos ⟨trivial, hnm⟩]
      rw [HN.out]
      have hle : decide ((m : Int) < (n : Int)) = false := by rw [decide_eq_false_iff_not]; omega
      have hcap := H2.out.cap
      cases a with
      | none =>
        obtain ⟨_, _, ⟨rfl, _⟩ | ⟨b, off, c', e, _⟩⟩ := H2.out
        · simp at d4; omega
        · cases e
      | some ad =>
        obtain ⟨b, off, had⟩ : ∃ b off, ad = ⟨b, off, none⟩ := by
          obtain ⟨_, _, ⟨rfl, _⟩ | ⟨b, off, c', e, _⟩⟩ := H2.out
          · simp at d4; omega
          · injection e with e1
            injection e1 with e1
            exact ⟨b, off, e1⟩
        subst had
        have HB : Hid (b < B) := (H3.out _ _ _ rfl).1
        clear d1 d6 hdd HN hby
        by_cases hck : c = k
        · have HD := hd (H2.out.drop k d4 off (l.length - k) (c - k) (by omega) rfl rfl)
          subst hck
          go_enter Try.func114, Try.ntmps114
          go_wp2_with fail
          refine Calls.mono HC.out ?_
          rintro e w' ⟨rfl, hw'⟩
          subst hw'
          clear HC
          go_wp2_with fail
          go_ret
          refine ⟨rfl, RDs.moved H1.out ?_ (low_some HB.out), KeepO.set _ _ _ _⟩
          rw [List.drop_of_length_le hcap]
          exact isK_nil _ _ _ _ _
        · have HD := hd (H2.out.drop k d4 (off + k) (l.length - k) (c - k) (fun _ => rfl) rfl rfl)
          go_enter Try.func114, Try.ntmps114
          go_wp2_with fail
          refine Calls.mono HC.out ?_
          rintro e w' ⟨rfl, hw'⟩
          subst hw'
          clear HC
          go_wp2_with fail
          go_ret
          exact ⟨rfl, RDs.moved H1.out HD.out (low_some HB.out), KeepO.set _ _ _ _⟩
    · have HN : Hid (rNum m (l, br) = (0, (l, true))) := by
        show rNum m (l, br) = _
        unfold rNum
        simp only [hdd]
        rw [if_neg (fun q => hnm q.2)]
      rw [HN.out]
      have hle : decide ((m : Int) < (n : Int)) = true := by rw [decide_eq_true_iff]; omega
      clear d1 d6 hdd HN hby
      go_enter Try.func114, Try.ntmps114
      go_wp2_with fail
      refine Calls.mono HC.out ?_
      rintro e w' ⟨rfl, hw'⟩
      subst hw'
      clear HC
      go_wp2_with fail
      go_ret
      exact ⟨rfl, HR.out.broke, KeepO.set _ _ _ _⟩
  · have HN : Hid (rNum m (l, br) = (0, (l, true))) := by
      show rNum m (l, br) = _
      unfold rNum
      simp only [hdd]
      rw [if_neg (fun q => he q.1)]
    rw [HN.out]
    have hle : (((er : Nat) : Int) != 0) = true := by simp; omega
    clear hdd HN hby
    go_enter Try.func114, Try.ntmps114
    go_wp2_with fail
    refine Calls.mono HC.out ?_
    rintro e w' ⟨rfl, hw'⟩
    subst hw'
    clear HC
    go_wp2_with fail
    go_ret
    exact ⟨rfl, HR.out.broke, KeepO.set _ _ _ _⟩
set_option maxRecDepth 100000 in
set_option maxHeartbeats 400000 in
theorem kind_is' (B : Nat) (s : RS) (w : World) (hR : RDs w B s) :
    Calls Try.prog 113 #[.pointer (some ⟨B, 0, none⟩)] w fun e w' => e = .returned (.int .i64 ((rKind s).1 : Int)) ∧ RDs w' B (rKind s).2 ∧ KeepO B w w' := by
  have HR := hd hR
  obtain ⟨l, br⟩ := s
  obtain ⟨v, h1, h2, h3⟩ := hR
  obtain ⟨a, c, rfl⟩ := h2.shape
  have hc0 := h1.cell 0 _ rfl
  have hc1 := h1.cell 1 _ rfl
  have hf0 := h1.frozen 0
  have hf1 := h1.frozen 1
  have H1 := hd h1
  have H2 := hd h2
  have H3 := hd h3
  simp only at *
  clear h1 h2 h3
  by_cases h0 : l = []
  · subst h0
    have HN : Hid (rKind (([] : List Nat), br) = (0, (([] : List Nat), true))) := by
      show rKind (([] : List Nat), br) = _
      unfold rKind
      rw [if_pos rfl]
    rw [HN.out]
    simp only [List.length_nil] at hc0
    go_enter Try.func113, Try.ntmps113
    go_wp2_with fail
    go_ret
    exact ⟨rfl, HR.out.broke, KeepO.set _ _ _ _⟩
  · have HN : Hid (rKind (l, br) = (l.getD 0 0, (l.drop 1, br))) := by
      show rKind (l, br) = _
      unfold rKind
      rw [if_neg h0]
    rw [HN.out]
    have hpos : 1 ≤ l.length := by
      rcases Nat.eq_zero_or_pos l.length with h | h
      · exact absurd (List.length_eq_zero_iff.1 h) h0
      · exact h
    have hcap := H2.out.cap
    cases a with
    | none =>
      obtain ⟨_, _, ⟨rfl, _⟩ | ⟨b, off, c', e, _⟩⟩ := H2.out
      · simp at hpos
      · cases e
    | some ad =>
      obtain ⟨b, off, had⟩ : ∃ b off, ad = ⟨b, off, none⟩ := by
        obtain ⟨_, _, ⟨rfl, _⟩ | ⟨b, off, c', e, _⟩⟩ := H2.out
        · simp at hpos
        · injection e with e1
          injection e1 with e1
          exact ⟨b, off, e1⟩
      subst had
      have HB : Hid (b < B) := (H3.out _ _ _ rfl).1
      have hx := H2.out.row 0 (by omega)
      have hxb := getD_lt H2.out.1 0
      rw [Nat.add_zero] at hx
      generalize l.getD 0 0 = x at *
      clear HN h0
      by_cases hck : c = 1
      · subst hck
        have HLE := hd hcap
        go_enter Try.func113, Try.ntmps113
        go_wp2_with fail
        go_ret
        refine ⟨rfl, RDs.moved H1.out ?_ (low_some HB.out), KeepO.set _ _ _ _⟩
        rw [List.drop_of_length_le hcap]
        exact isK_nil _ _ _ _ _
      · have HD := hd (H2.out.drop 1 hpos (off + 1) (l.length - 1) (c - 1) (fun _ => rfl) rfl rfl)
        go_enter Try.func113, Try.ntmps113
        go_wp2_with fail
        go_ret
        exact ⟨rfl, RDs.moved H1.out HD.out (low_some HB.out), KeepO.set _ _ _ _⟩
set_option maxRecDepth 100000 in
set_option maxHeartbeats 400000 in
theorem text_is' (B n : Nat) (s : RS) (w : World) (hR : RDs w B s) (hn : n < 18446744073709551616) :
    Calls Try.prog 115 #[.pointer (some ⟨B, 0, none⟩), .int .u64 (n : Int)] w fun e w' => e = .returned (.string (rText n s).1) ∧ RDs w' B (rText n s).2 ∧ KeepO B w w' := by
  have HR := hd hR
  obtain ⟨l, br⟩ := s
  obtain ⟨v, h1, h2, h3⟩ := hR
  obtain ⟨a, c, rfl⟩ := h2.shape
  have hc0 := h1.cell 0 _ rfl
  have hc1 := h1.cell 1 _ rfl
  have hf0 := h1.frozen 0
  have hf1 := h1.frozen 1
  have hml : l.length ≤ maxLen := h2.2.1
  unfold maxLen at hml
  have H1 := hd h1
  have H2 := hd h2
  have H3 := hd h3
  simp only at *
  clear h1 h2 h3
  have hcap := H2.out.cap
  by_cases hlt : l.length < n
  · have HN : Hid (rText n (l, br) = (ByteArray.empty, (l, true))) := by
      show rText n (l, br) = _
      unfold rText
      rw [if_pos hlt]
    rw [HN.out]
    go_enter Try.func115, Try.ntmps115
    go_wp2_with fail
    go_ret
    exact ⟨rfl, HR.out.broke, KeepO.set _ _ _ _⟩
  · have HN : Hid (rText n (l, br) = (str (l.take n), (l.drop n, br))) := by
      show rText n (l, br) = _
      unfold rText
      rw [if_neg hlt]
    rw [HN.out]
    have hcv := conv_is w _ _ (H2.out.take n (by omega))
    generalize str (l.take n) = S at *
    clear HN
    cases a with
    | none =>
      obtain ⟨_, _, ⟨rfl, _⟩ | ⟨b, off, c', e, _⟩⟩ := H2.out
      · obtain rfl : n = 0 := by simp at hlt; omega
        simp only [List.length_nil] at *
        go_enter Try.func115, Try.ntmps115
        go_wp2_with fail
        go_ret
        exact ⟨rfl, RDs.moved H1.out (isK_nil _ _ _ _ _) low_none, KeepO.set _ _ _ _⟩
      · cases e
    | some ad =>
      · obtain ⟨b, off, had⟩ : ∃ b off, ad = ⟨b, off, none⟩ := by
          obtain ⟨b, off, sp⟩ := ad
          have := (H3.out _ _ _ rfl).2
          simp only at this
          subst this
          exact ⟨b, off, rfl⟩
        subst had
        have HB : Hid (b < B) := (H3.out _ _ _ rfl).1
        by_cases hck : c = n
        · subst hck
          go_enter Try.func115, Try.ntmps115
          go_wp2_with fail
          go_ret
          refine ⟨rfl, RDs.moved H1.out ?_ (low_some HB.out), KeepO.set _ _ _ _⟩
          rw [List.drop_of_length_le hcap]
          exact isK_nil _ _ _ _ _
        · have HD := hd (H2.out.drop n (by omega) (off + n) (l.length - n) (c - n) (fun _ => rfl) rfl rfl)
          go_enter Try.func115, Try.ntmps115
          go_wp2_with fail
          go_ret
          exact ⟨rfl, RDs.moved H1.out HD.out (low_some HB.out), KeepO.set _ _ _ _⟩
set_option maxRecDepth 100000 in
set_option maxHeartbeats 400000 in
theorem rest_is' (B : Nat) (s : RS) (w : World) (hR : RDs w B s) :
    Calls Try.prog 116 #[.pointer (some ⟨B, 0, none⟩)] w fun e w' => e = .returned (.string (rRest s).1) ∧ RDs w' B (rRest s).2 ∧ KeepO B w w' := by
  unfold rRest
  have hml : s.1.length ≤ maxLen := by obtain ⟨v, _, h2, _⟩ := hR; exact h2.2.1
  unfold maxLen at hml
  have HT := hd (text_is' B s.1.length s w hR (by omega))
  obtain ⟨l, br⟩ := s
  obtain ⟨v, h1, h2, h3⟩ := hR
  obtain ⟨a, c, rfl⟩ := h2.shape
  have hc0 := h1.cell 0 _ rfl
  simp only at *
  clear h1 h2 h3
  go_enter Try.func116, Try.ntmps116
  go_wp2_with fail
  refine Calls.mono HT.out ?_
  rintro e w' ⟨rfl, hr, hk⟩
  have HR' := hd hr
  have HK' := hd hk
  clear hr hk
  go_wp2_with fail
  go_ret
  exact ⟨rfl, HR'.out, HK'.out⟩
end Vt
end Go.Proofs.Ytlddogigbodilaa
