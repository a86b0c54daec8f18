/-
  THE WALKS OF the laws' own 'same' (by string), 'awake'.
  THE READER OF A BODY (frame.reader): kind, number, text, rest: what 'rKind', 'rNum', 'rText', 'rRest' say; all blocks but the reader's own stay.
  A block of which all cells are set, one behind the other.
  THE READER OF A BODY (frame.reader): pointer, ending: what 'rPtr', 'rEdg' say.
-/
import Derived.Test.YtnjhbidialngmaaXhad
import Derived.Test.YtnjhbidialngmaaXhab
import Derived.Test.YtnjhbidialngmaaXhac
import Derived.Laws.Rows
namespace Go.Proofs.Ytnjhbidialngmaa
open Go.RowKit
namespace Vt
theorem conv_is (w : World) (v : Value) (l : List Nat) (h : IsB w v l) : (convert 36 9 v).run Try.prog w = .ok (.string (str l)) w := by
  obtain ⟨a, c, rfl⟩ := h.shape
  rw [run_convert_bytes_string w _ _ 5 _ _ _ Try.underlying36 Try.underlying5 Try.underlying9]
  cases a with
  | none =>
    obtain ⟨_, _, ⟨rfl, a', c', e⟩ | ⟨b, off, c', e, _⟩⟩ := h
    · rfl
    · cases e
  | some ad =>
    refine run_bytesToString w ad _ _ (l.map fun x => ((x : Nat) : Int)) ?_
    obtain ⟨_, _, ⟨rfl, a', c', e⟩ | ⟨b, off, c', e, _, _, _, hr⟩⟩ := h
    · rfl
    · injection e with e1 e2 e3
      injection e1 with e1
      subst e1
      have := run_loadCells_list (P := Try.prog) w ⟨b, off, none⟩ (bs l) (news_of_row hr)
      rw [bs_len] at this
      rw [this]
      unfold bs
      rw [List.map_map]; rfl
end Vt
end Go.Proofs.Ytnjhbidialngmaa
namespace Go.Proofs.Ytnjhbidialngmaa
open Go.RowKit
namespace Vt
/-- all blocks that were there, but one, stay -/
structure KeepO (B : Nat) (w w' : World) : Prop where
  os : w'.os = w.os
  tape : w'.tape = w.tape
  output : w'.output = w.output
  size : w.heap.size ≤ w'.heap.size
  block : ∀ k, k < w.heap.size → k ≠ B → w'.heap[k]? = w.heap[k]?
theorem KeepO.refl (B : Nat) (w : World) : KeepO B w w := ⟨rfl, rfl, rfl, Nat.le_refl _, fun _ _ _ => rfl⟩
theorem KeepO.trans {B : Nat} {a b c : World} (h : KeepO B a b) (k : KeepO B b c) : KeepO B a c :=
  ⟨k.os.trans h.os, k.tape.trans h.tape, k.output.trans h.output, Nat.le_trans h.size k.size, fun i hi hb => (k.block i (Nat.lt_of_lt_of_le hi h.size) hb).trans (h.block i hi hb)⟩
theorem KeepO.below {B n : Nat} {a b : World} (h : KeepO B a b) (hn : n ≤ B) (hn2 : n ≤ a.heap.size) : Below n a b := ⟨h.os, h.tape, h.output, h.size, fun i hi => h.block i (by omega) (by omega)⟩
theorem KeepO.of_below {B : Nat} {a b : World} (h : Below a.heap.size a b) : KeepO B a b := ⟨h.os, h.tape, h.output, h.size, fun i hi _ => h.block i hi⟩
theorem KeepO.alloc (B : Nat) (w : World) (o : Obj) : KeepO B w (w.alloc o) := KeepO.of_below ((Below.refl _ _).alloc (Nat.le_refl _) o)
theorem KeepO.set (B j : Nat) (w : World) (v : Value) : KeepO B w (w.setCell ⟨B, j, none⟩ v) := by
  have hb : Below B w (w.setCell ⟨B, j, none⟩ v) := (Below.refl _ _).setCell (p := ⟨B, j, none⟩) (Nat.le_refl _) v
  refine ⟨hb.os, hb.tape, hb.output, hb.size, fun k hk hne => ?_⟩
  show (w.heap.modify B _)[k]? = _
  rw [Array.getElem?_modify, if_neg (fun q => hne q.symm)]
theorem Blk.keepO {W W' : World} {O B : Nat} {T : TypeId} {cs : List Value} (h : Blk W O T cs) (hO : O ≠ B) (hb : KeepO B W W') : Blk W' O T cs := (hb.block O h.lt hO).trans h
theorem IsK.keepO {k : IntKind} {M B : Nat} {w w' : World} {v : Value} {l : List Nat} (h : IsK k M w v l) (hv : ∀ b off n c, v = .slice (some ⟨b, off, none⟩) n c → b ≠ B) (hb : KeepO B w w') : IsK k M w' v l := by
  obtain ⟨h1, h2, ⟨rfl, a, c, rfl⟩ | ⟨b, off, c, rfl, h3, h4, h5, h6⟩⟩ := h
  · exact ⟨h1, h2, .inl ⟨rfl, a, c, rfl⟩⟩
  · refine ⟨h1, h2, .inr ⟨b, off, c, rfl, h3, h4, Nat.lt_of_lt_of_le h5 hb.size, fun j hj => ?_⟩⟩
    rw [World.cell?_of_block (a := ⟨b, off + j, none⟩) (hb.block b h5 (hv _ _ _ _ rfl))]; exact h6 j hj
def Low (v : Value) (B : Nat) : Prop := ∀ a n c, v = .slice (some a) n c → a.block < B ∧ a.spot = none
theorem low_some {b off n c B : Nat} (h : b < B) : Low (.slice (some ⟨b, off, none⟩) n c) B := by
  intro a m d e
  injection e with e1
  injection e1 with e1
  subst e1
  exact ⟨h, rfl⟩
theorem low_none {n c B : Nat} : Low (.slice none n c) B := by
  intro a m d e
  cases e
/-- the reader lies in block B, in a state -/
def RDs (w : World) (B : Nat) (s : RS) : Prop := ∃ v, Blk w B 109 [v, .bool s.2] ∧ IsB w v s.1 ∧ Low v B
theorem RDs.lt {w : World} {B : Nat} {s : RS} (h : RDs w B s) : B < w.heap.size := by
  obtain ⟨v, h1, _⟩ := h
  exact h1.lt
theorem RDs.below {w w' : World} {B : Nat} {s : RS} (h : RDs w B s) (hb : Below w.heap.size w w') : RDs w' B s := by
  obtain ⟨v, h1, h2, h3⟩ := h
  exact ⟨v, h1.keep hb, h2.below hb, h3⟩
theorem RDs.alloc {w : World} {B : Nat} {s : RS} (h : RDs w B s) (o : Obj) : RDs (w.alloc o) B s := h.below ((Below.refl _ _).alloc (Nat.le_refl _) o)
theorem RDs.setO {w : World} {B : Nat} {s : RS} (h : RDs w B s) {p : Addr} (hp : B < p.block) (u : Value) : RDs (w.setCell p u) B s := by
  obtain ⟨v, h1, h2, h3⟩ := h
  exact ⟨v, h1.other (by omega) u, h2.setO (fun b off n c e => by have := (h3 _ _ _ e).1; simp only at this; omega) u, h3⟩
/-- it is broken -/
theorem RDs.broke {w : World} {B : Nat} {l : List Nat} {b : Bool} (h : RDs w B (l, b)) : RDs (w.setCell ⟨B, 1, none⟩ (.bool true)) B (l, true) := by
  obtain ⟨v, h1, h2, h3⟩ := h
  refine ⟨v, h1.set (j := 1) (.bool true), h2.setO (p := ⟨B, 1, none⟩) (fun b off n c e => by have := (h3 _ _ _ e).1; simp only at this; show b ≠ B; omega) _, h3⟩
/-- it goes on -/
theorem RDs.moved {w : World} {B : Nat} {br : Bool} {v : Value} (h1 : Blk w B 109 [v, .bool br]) {u : Value} {r : List Nat} (h2 : IsB w u r) (h3 : Low u B) : RDs (w.setCell ⟨B, 0, none⟩ u) B (r, br) :=
  ⟨u, h1.set (j := 0) u, h2.setO (p := ⟨B, 0, none⟩) (fun b off n c e => by have := (h3 _ _ _ e).1; simp only at this; show b ≠ B; omega) _, h3⟩
set_option maxRecDepth 100000 in
set_option maxHeartbeats 400000 in
theorem number_is' (B m : Nat) (s : RS) (w : World) (hR : RDs w B s) :
    Calls Try.prog 91 #[.pointer (some ⟨B, 0, none⟩), .int .u64 (m : Int)] w fun e w' => e = .returned (.int .u64 ((rNum m s).1 : Int)) ∧ RDs w' B (rNum m s).2 ∧ KeepO B w w' := by
  have HR := hd hR
  obtain ⟨l, br⟩ := s
  obtain ⟨v, h1, h2, h3⟩ := hR
  obtain ⟨a, c, rfl⟩ := h2.shape
  have hc0 := h1.cell 0 _ rfl
  have hc1 := h1.cell 1 _ rfl
  have hf0 := h1.frozen 0
  have hf1 := h1.frozen 1
  have HC := hd (decode_is _ l w h2)
  have H1 := hd h1
  have H2 := hd h2
  have H3 := hd h3
  have hby := h2.1
  simp only at *
  clear h1 h2 h3
  obtain ⟨n, k, er, hdd⟩ : ∃ n k er, dec l = (n, k, er) := ⟨_, _, _, rfl⟩
  rw [hdd] at HC
  unfold ans at HC
  by_cases he : er = 0
  · subst he
    obtain ⟨d1, d2, d3, d4, d5, d6⟩ := dec_ok hby hdd
    by_cases hnm : n ≤ m
    · have HN : Hid (rNum m (l, br) = (n, (l.drop k, br))) := by
        show rNum m (l, br) = _
        unfold rNum
        simp only [hdd]
        rw [if_pos ⟨trivial, hnm⟩]
      rw [HN.out]
      have hle : decide ((m : Int) < (n : Int)) = false := by rw [decide_eq_false_iff_not]; omega
      have hcap := H2.out.cap
      cases a with
      | none =>
        obtain ⟨_, _, ⟨rfl, _⟩ | ⟨b, off, c', e, _⟩⟩ := H2.out
        · simp at d4; omega
        · cases e
      | some ad =>
        obtain ⟨b, off, had⟩ : ∃ b off, ad = ⟨b, off, none⟩ := by
          obtain ⟨_, _, ⟨rfl, _⟩ | ⟨b, off, c', e, _⟩⟩ := H2.out
          · simp at d4; omega
          · injection e with e1
            injection e1 with e1
            exact ⟨b, off, e1⟩
        subst had
        have HB : Hid (b < B) := (H3.out _ _ _ rfl).1
        clear d1 d6 hdd HN hby
        by_cases hck : c = k
        · have HD := hd (H2.out.drop k d4 off (l.length - k) (c - k) (by omega) rfl rfl)
          subst hck
          go_enter Try.func91, Try.ntmps91
          go_wp2_with fail
          refine Calls.mono HC.out ?_
          rintro e w' ⟨rfl, hw'⟩
          subst hw'
          clear HC
          go_wp2_with fail
          go_ret
          refine ⟨rfl, RDs.moved H1.out ?_ (low_some HB.out), KeepO.set _ _ _ _⟩
          rw [List.drop_of_length_le hcap]
          exact isK_nil _ _ _ _ _
        · have HD := hd (H2.out.drop k d4 (off + k) (l.length - k) (c - k) (fun _ => rfl) rfl rfl)
          go_enter Try.func91, Try.ntmps91
          go_wp2_with fail
          refine Calls.mono HC.out ?_
          rintro e w' ⟨rfl, hw'⟩
          subst hw'
          clear HC
          go_wp2_with fail
          go_ret
          exact ⟨rfl, RDs.moved H1.out HD.out (low_some HB.out), KeepO.set _ _ _ _⟩
    · have HN : Hid (rNum m (l, br) = (0, (l, true))) := by
        show rNum m (l, br) = _
        unfold rNum
        simp only [hdd]
        rw [if_neg (fun q => hnm q.2)]
      rw [HN.out]
      have hle : decide ((m : Int) < (n : Int)) = true := by rw [decide_eq_true_iff]; omega
      clear d1 d6 hdd HN hby
      go_enter Try.func91, Try.ntmps91
      go_wp2_with fail
      refine Calls.mono HC.out ?_
      rintro e w' ⟨rfl, hw'⟩
      subst hw'
      clear HC
      go_wp2_with fail
      go_ret
      exact ⟨rfl, HR.out.broke, KeepO.set _ _ _ _⟩
  · have HN : Hid (rNum m (l, br) = (0, (l, true))) := by
      show rNum m (l, br) = _
      unfold rNum
      simp only [hdd]
      rw [if_neg (fun q => he q.1)]
    rw [HN.out]
    have hle : (((er : Nat) : Int) != 0) = true := by simp; omega
    clear hdd HN hby
    go_enter Try.func91, Try.ntmps91
    go_wp2_with fail
    refine Calls.mono HC.out ?_
    rintro e w' ⟨rfl, hw'⟩
    subst hw'
    clear HC
    go_wp2_with fail
    go_ret
    exact ⟨rfl, HR.out.broke, KeepO.set _ _ _ _⟩
set_option maxRecDepth 100000 in
set_option maxHeartbeats 400000 in
theorem kind_is' (B : Nat) (s : RS) (w : World) (hR : RDs w B s) :
    Calls Try.prog 90 #[.pointer (some ⟨B, 0, none⟩)] w fun e w' => e = .returned (.int .i64 ((rKind s).1 : Int)) ∧ RDs w' B (rKind s).2 ∧ KeepO B w w' := by
  have HR := hd hR
  obtain ⟨l, br⟩ := s
  obtain ⟨v, h1, h2, h3⟩ := hR
  obtain ⟨a, c, rfl⟩ := h2.shape
  have hc0 := h1.cell 0 _ rfl
  have hc1 := h1.cell 1 _ rfl
  have hf0 := h1.frozen 0
  have hf1 := h1.frozen 1
  have H1 := hd h1
  have H2 := hd h2
  have H3 := hd h3
  simp only at *
  clear h1 h2 h3
  by_cases h0 : l = []
  · subst h0
    have HN : Hid (rKind (([] : List Nat), br) = (0, (([] : List Nat), true))) := by
      show rKind (([] : List Nat), br) = _
      unfold rKind
      rw [if_pos rfl]
    rw [HN.out]
    simp only [List.length_nil] at hc0
    go_enter Try.func90, Try.ntmps90
    go_wp2_with fail
    go_ret
    exact ⟨rfl, HR.out.broke, KeepO.set _ _ _ _⟩
  · have HN : Hid (rKind (l, br) = (l.getD 0 0, (l.drop 1, br))) := by
      show rKind (l, br) = _
      unfold rKind
      rw [if_neg h0]
    rw [HN.out]
    have hpos : 1 ≤ l.length := by
      rcases Nat.eq_zero_or_pos l.length with h | h
      · exact absurd (List.length_eq_zero_iff.1 h) h0
      · exact h
    have hcap := H2.out.cap
    cases a with
    | none =>
      obtain ⟨_, _, ⟨rfl, _⟩ | ⟨b, off, c', e, _⟩⟩ := H2.out
      · simp at hpos
      · cases e
    | some ad =>
      obtain ⟨b, off, had⟩ : ∃ b off, ad = ⟨b, off, none⟩ := by
        obtain ⟨_, _, ⟨rfl, _⟩ | ⟨b, off, c', e, _⟩⟩ := H2.out
        · simp at hpos
        · injection e with e1
          injection e1 with e1
          exact ⟨b, off, e1⟩
      subst had
      have HB : Hid (b < B) := (H3.out _ _ _ rfl).1
      have hx := H2.out.row 0 (by omega)
      have hxb := getD_lt H2.out.1 0
      rw [Nat.add_zero] at hx
      generalize l.getD 0 0 = x at *
      clear HN h0
      by_cases hck : c = 1
      · subst hck
        have HLE := hd hcap
        go_enter Try.func90, Try.ntmps90
        go_wp2_with fail
        go_ret
        refine ⟨rfl, RDs.moved H1.out ?_ (low_some HB.out), KeepO.set _ _ _ _⟩
        rw [List.drop_of_length_le hcap]
        exact isK_nil _ _ _ _ _
      · have HD := hd (H2.out.drop 1 hpos (off + 1) (l.length - 1) (c - 1) (fun _ => rfl) rfl rfl)
        go_enter Try.func90, Try.ntmps90
        go_wp2_with fail
        go_ret
        exact ⟨rfl, RDs.moved H1.out HD.out (low_some HB.out), KeepO.set _ _ _ _⟩
set_option maxRecDepth 100000 in
set_option maxHeartbeats 400000 in
theorem text_is' (B n : Nat) (s : RS) (w : World) (hR : RDs w B s) (hn : n < 18446744073709551616) :
    Calls Try.prog 92 #[.pointer (some ⟨B, 0, none⟩), .int .u64 (n : Int)] w fun e w' => e = .returned (.string (rText n s).1) ∧ RDs w' B (rText n s).2 ∧ KeepO B w w' := by
  have HR := hd hR
  obtain ⟨l, br⟩ := s
  obtain ⟨v, h1, h2, h3⟩ := hR
  obtain ⟨a, c, rfl⟩ := h2.shape
  have hc0 := h1.cell 0 _ rfl
  have hc1 := h1.cell 1 _ rfl
  have hf0 := h1.frozen 0
  have hf1 := h1.frozen 1
  have hml : l.length ≤ maxLen := h2.2.1
  unfold maxLen at hml
  have H1 := hd h1
  have H2 := hd h2
  have H3 := hd h3
  simp only at *
  clear h1 h2 h3
  have hcap := H2.out.cap
  by_cases hlt : l.length < n
  · have HN : Hid (rText n (l, br) = (ByteArray.empty, (l, true))) := by
      show rText n (l, br) = _
      unfold rText
      rw [if_pos hlt]
    rw [HN.out]
    go_enter Try.func92, Try.ntmps92
    go_wp2_with fail
    go_ret
    exact ⟨rfl, HR.out.broke, KeepO.set _ _ _ _⟩
  · have HN : Hid (rText n (l, br) = (str (l.take n), (l.drop n, br))) := by
      show rText n (l, br) = _
      unfold rText
      rw [if_neg hlt]
    rw [HN.out]
    have hcv := conv_is w _ _ (H2.out.take n (by omega))
    generalize str (l.take n) = S at *
    clear HN
    cases a with
    | none =>
      obtain ⟨_, _, ⟨rfl, _⟩ | ⟨b, off, c', e, _⟩⟩ := H2.out
      · obtain rfl : n = 0 := by simp at hlt; omega
        simp only [List.length_nil] at *
        go_enter Try.func92, Try.ntmps92
        go_wp2_with fail
        go_ret
        exact ⟨rfl, RDs.moved H1.out (isK_nil _ _ _ _ _) low_none, KeepO.set _ _ _ _⟩
      · cases e
    | some ad =>
      · obtain ⟨b, off, had⟩ : ∃ b off, ad = ⟨b, off, none⟩ := by
          obtain ⟨b, off, sp⟩ := ad
          have := (H3.out _ _ _ rfl).2
          simp only at this
          subst this
          exact ⟨b, off, rfl⟩
        subst had
        have HB : Hid (b < B) := (H3.out _ _ _ rfl).1
        by_cases hck : c = n
        · subst hck
          go_enter Try.func92, Try.ntmps92
          go_wp2_with fail
          go_ret
          refine ⟨rfl, RDs.moved H1.out ?_ (low_some HB.out), KeepO.set _ _ _ _⟩
          rw [List.drop_of_length_le hcap]
          exact isK_nil _ _ _ _ _
        · have HD := hd (H2.out.drop n (by omega) (off + n) (l.length - n) (c - n) (fun _ => rfl) rfl rfl)
          go_enter Try.func92, Try.ntmps92
          go_wp2_with fail
          go_ret
          exact ⟨rfl, RDs.moved H1.out HD.out (low_some HB.out), KeepO.set _ _ _ _⟩
set_option maxRecDepth 100000 in
set_option maxHeartbeats 400000 in
theorem rest_is' (B : Nat) (s : RS) (w : World) (hR : RDs w B s) :
    Calls Try.prog 93 #[.pointer (some ⟨B, 0, none⟩)] w fun e w' => e = .returned (.string (rRest s).1) ∧ RDs w' B (rRest s).2 ∧ KeepO B w w' := by
  unfold rRest
  have hml : s.1.length ≤ maxLen := by obtain ⟨v, _, h2, _⟩ := hR; exact h2.2.1
  unfold maxLen at hml
  have HT := hd (text_is' B s.1.length s w hR (by omega))
  obtain ⟨l, br⟩ := s
  obtain ⟨v, h1, h2, h3⟩ := hR
  obtain ⟨a, c, rfl⟩ := h2.shape
  have hc0 := h1.cell 0 _ rfl
  simp only at *
  clear h1 h2 h3
  go_enter Try.func93, Try.ntmps93
  go_wp2_with fail
  refine Calls.mono HT.out ?_
  rintro e w' ⟨rfl, hr, hk⟩
  have HR' := hd hr
  have HK' := hd hk
  clear hr hk
  go_wp2_with fail
  go_ret
  exact ⟨rfl, HR'.out, HK'.out⟩
end Vt
end Go.Proofs.Ytnjhbidialngmaa
namespace Go.Proofs.Ytnjhbidialngmaa
open Go.RowKit
namespace Vt
/-- a block of which all cells are set, one behind the other -/
def setL (w : World) (O : Nat) : Nat → List Value → World
  | _, [] => w
  | j, v :: r => setL (w.setCell ⟨O, j, none⟩ v) O (j + 1) r
theorem setL_blk {O : Nat} {T : TypeId} (ds : List Value) : ∀ (w : World) (j : Nat) (pre cs : List Value), j = pre.length → cs.length = ds.length → Blk w O T (pre ++ cs) → Blk (setL w O j ds) O T (pre ++ ds) := by
  induction ds with
  | nil => intro w j pre cs _ hl h; rw [List.length_eq_zero_iff.1 hl] at h; exact h
  | cons d r ih =>
    intro w j pre cs hj hl h
    cases cs with
    | nil => simp at hl
    | cons c cs =>
      have := ih (w.setCell ⟨O, j, none⟩ d) (j + 1) (pre ++ [d]) cs (by simp [hj]) (by simpa using hl) (by
        have h2 := h.set (j := j) d
        rw [hj, List.set_append_right _ _ (Nat.le_refl _), Nat.sub_self] at h2
        rw [hj, List.append_assoc]; exact h2)
      rw [List.append_assoc] at this
      exact this
end Vt
end Go.Proofs.Ytnjhbidialngmaa
namespace Go.Proofs.Ytnjhbidialngmaa
open Go.RowKit
namespace Vt
theorem rNum_le (m : Nat) (s : RS) : (rNum m s).1 ≤ m := by
  unfold rNum; split
  · rename_i h; exact h.2
  · exact Nat.zero_le _
theorem setL_keepO {B O : Nat} (ds : List Value) : ∀ (w w0 : World) (j : Nat), w0.heap.size ≤ O → KeepO B w0 w → KeepO B w0 (setL w O j ds) := by
  induction ds with
  | nil => intro w w0 j _ h; exact h
  | cons d r ih =>
    intro w w0 j hO h
    refine ih _ w0 (j + 1) hO ⟨h.os, h.tape, h.output, ?_, fun k hk hne => ?_⟩
    · show _ ≤ (w.heap.modify O _).size
      rw [Array.size_modify]; exact h.size
    · show (w.heap.modify O _)[k]? = _
      rw [Array.getElem?_modify, if_neg (by omega)]; exact h.block k hk hne
theorem KeepO.setO {B : Nat} {w0 w : World} (h : KeepO B w0 w) {p : Addr} (hp : w0.heap.size ≤ p.block) (v : Value) : KeepO B w0 (w.setCell p v) := by
  refine ⟨h.os, h.tape, h.output, ?_, fun k hk hne => ?_⟩
  · show _ ≤ (w.heap.modify p.block _).size
    rw [Array.size_modify]; exact h.size
  · show (w.heap.modify p.block _)[k]? = _
    rw [Array.getElem?_modify, if_neg (by omega)]; exact h.block k hk hne
theorem setL_rds {B O : Nat} {s : RS} (hO : B < O) (ds : List Value) : ∀ (w : World) (j : Nat), RDs w B s → RDs (setL w O j ds) B s := by
  induction ds with
  | nil => intro w j h; exact h
  | cons d r ih => intro w j h; exact ih _ _ (h.setO (p := ⟨O, j, none⟩) hO d)
set_option maxRecDepth 100000 in
set_option maxHeartbeats 1000000 in
theorem ptr_is (B : Nat) (s : RS) (w : World) (hR : RDs w B s) :
    Calls Try.prog 94 #[.pointer (some ⟨B, 0, none⟩)] w fun e w' => e = .returned (.agg #[.int .u64 ((rPtr s).1.lsn : Int), .int .i64 (rPtr s).1.kind, .int .i64 (rPtr s).1.at_, .int .i64 (rPtr s).1.len, .string (rPtr s).1.key]) ∧ RDs w' B (rPtr s).2 ∧ KeepO B w w' := by
  obtain ⟨a, s1, e0⟩ : ∃ a s1, rNum 18446744073709551615 s = (a, s1) := ⟨_, _, rfl⟩
  have b0 : a ≤ 18446744073709551615 := by have := rNum_le 18446744073709551615 s; rw [e0] at this; exact this
  obtain ⟨k, s2, e1⟩ : ∃ k s2, rKind s1 = (k, s2) := ⟨_, _, rfl⟩
  obtain ⟨b, s3, e2⟩ : ∃ b s3, rNum 4194304 s2 = (b, s3) := ⟨_, _, rfl⟩
  have b2 : b ≤ 4194304 := by have := rNum_le 4194304 s2; rw [e2] at this; exact this
  obtain ⟨c, s4, e3⟩ : ∃ c s4, rNum 4194304 s3 = (c, s4) := ⟨_, _, rfl⟩
  have b3 : c ≤ 4194304 := by have := rNum_le 4194304 s3; rw [e3] at this; exact this
  obtain ⟨t, s5, e4⟩ : ∃ t s5, rRest s4 = (t, s5) := ⟨_, _, rfl⟩
  have HE : Hid (rPtr s = (⟨a, (k : Int), (b : Int), (c : Int), t⟩, s5)) := by
    show rPtr s = _
    unfold rPtr
    simp only [e0, e1, e2, e3, e4]
  rw [HE.out]
  simp only
  have E0 := hd e0
  have E1 := hd e1
  have E2 := hd e2
  have E3 := hd e3
  have E4 := hd e4
  clear e0 e1 e2 e3 e4 HE
  have hlt := hR.lt
  have HR0 := hd ((hR.alloc (.cells #[.int .u64 0, .int .i64 0, .int .i64 0, .int .i64 0, .string ⟨#[]⟩] 27)).alloc (.cells #[.int .u64 0, .int .i64 0, .int .i64 0, .int .i64 0, .string ⟨#[]⟩] 27))
  clear hR
  have HA0 : Hid (Blk ((w.alloc (.cells #[.int .u64 0, .int .i64 0, .int .i64 0, .int .i64 0, .string ⟨#[]⟩] 27)).alloc (.cells #[.int .u64 0, .int .i64 0, .int .i64 0, .int .i64 0, .string ⟨#[]⟩] 27)) w.heap.size 27 [.int .u64 0, .int .i64 0, .int .i64 0, .int .i64 0, .string ⟨#[]⟩]) := (Blk.new w _ _).alloc _
  have HP0 : Hid (Blk ((w.alloc (.cells #[.int .u64 0, .int .i64 0, .int .i64 0, .int .i64 0, .string ⟨#[]⟩] 27)).alloc (.cells #[.int .u64 0, .int .i64 0, .int .i64 0, .int .i64 0, .string ⟨#[]⟩] 27)) (w.heap.size + 1) 27 [.int .u64 0, .int .i64 0, .int .i64 0, .int .i64 0, .string ⟨#[]⟩]) := by
    have := Blk.new (w.alloc (.cells #[.int .u64 0, .int .i64 0, .int .i64 0, .int .i64 0, .string ⟨#[]⟩] 27)) 27 [.int .u64 0, .int .i64 0, .int .i64 0, .int .i64 0, .string ⟨#[]⟩]
    rw [World.size_alloc] at this
    exact this
  have HK0 : Hid (KeepO B w ((w.alloc (.cells #[.int .u64 0, .int .i64 0, .int .i64 0, .int .i64 0, .string ⟨#[]⟩] 27)).alloc (.cells #[.int .u64 0, .int .i64 0, .int .i64 0, .int .i64 0, .string ⟨#[]⟩] 27))) := (KeepO.alloc _ _ _).trans (KeepO.alloc _ _ _)
  go_enter Try.func94, Try.ntmps94
  go_wp2_with fail
  refine Calls.mono (number_is' B 18446744073709551615 s _ HR0.out) ?_
  rw [E0.out]
  simp only
  rintro e w1 ⟨rfl, hr, hk⟩
  have HRb1 := hd hr
  have HAb1 := hd (HA0.out.keepO (by omega) hk)
  have HPb1 := hd (HP0.out.keepO (by omega) hk)
  have HKb1 := hd (HK0.out.trans hk)
  clear hr hk HR0 HA0 HP0 HK0
  have hc0 := HPb1.out.cell 0 _ rfl
  have hf0 := HPb1.out.frozen 0
  have HR1 := hd (HRb1.out.setO (p := ⟨w.heap.size + 1, 0, none⟩) (show B < w.heap.size + 1 by omega) (.int .u64 ((a : Nat) : Int)))
  have HA1 := hd (HAb1.out.other (p := ⟨w.heap.size + 1, 0, none⟩) (show w.heap.size + 1 ≠ w.heap.size by omega) (.int .u64 ((a : Nat) : Int)))
  have HP1 := hd (HPb1.out.set (j := 0) (.int .u64 ((a : Nat) : Int)))
  have HK1 := hd (HKb1.out.setO (p := ⟨w.heap.size + 1, 0, none⟩) (show w.heap.size ≤ w.heap.size + 1 by omega) (.int .u64 ((a : Nat) : Int)))
  clear HRb1 HAb1 HPb1 HKb1
  go_wp2_with fail
  refine Calls.mono (kind_is' B s1 _ HR1.out) ?_
  rw [E1.out]
  simp only
  rintro e w2 ⟨rfl, hr, hk⟩
  have HRb2 := hd hr
  have HAb2 := hd (HA1.out.keepO (by omega) hk)
  have HPb2 := hd (HP1.out.keepO (by omega) hk)
  have HKb2 := hd (HK1.out.trans hk)
  clear hr hk HR1 HA1 HP1 HK1
  have hc1 := HPb2.out.cell 1 _ rfl
  have hf1 := HPb2.out.frozen 1
  have HR2 := hd (HRb2.out.setO (p := ⟨w.heap.size + 1, 1, none⟩) (show B < w.heap.size + 1 by omega) (.int .i64 ((k : Nat) : Int)))
  have HA2 := hd (HAb2.out.other (p := ⟨w.heap.size + 1, 1, none⟩) (show w.heap.size + 1 ≠ w.heap.size by omega) (.int .i64 ((k : Nat) : Int)))
  have HP2 := hd (HPb2.out.set (j := 1) (.int .i64 ((k : Nat) : Int)))
  have HK2 := hd (HKb2.out.setO (p := ⟨w.heap.size + 1, 1, none⟩) (show w.heap.size ≤ w.heap.size + 1 by omega) (.int .i64 ((k : Nat) : Int)))
  clear HRb2 HAb2 HPb2 HKb2
  go_wp2_with fail
  refine Calls.mono (number_is' B 4194304 s2 _ HR2.out) ?_
  rw [E2.out]
  simp only
  rintro e w3 ⟨rfl, hr, hk⟩
  have HRb3 := hd hr
  have HAb3 := hd (HA2.out.keepO (by omega) hk)
  have HPb3 := hd (HP2.out.keepO (by omega) hk)
  have HKb3 := hd (HK2.out.trans hk)
  clear hr hk HR2 HA2 HP2 HK2
  have hc2 := HPb3.out.cell 2 _ rfl
  have hf2 := HPb3.out.frozen 2
  have HR3 := hd (HRb3.out.setO (p := ⟨w.heap.size + 1, 2, none⟩) (show B < w.heap.size + 1 by omega) (.int .i64 ((b : Nat) : Int)))
  have HA3 := hd (HAb3.out.other (p := ⟨w.heap.size + 1, 2, none⟩) (show w.heap.size + 1 ≠ w.heap.size by omega) (.int .i64 ((b : Nat) : Int)))
  have HP3 := hd (HPb3.out.set (j := 2) (.int .i64 ((b : Nat) : Int)))
  have HK3 := hd (HKb3.out.setO (p := ⟨w.heap.size + 1, 2, none⟩) (show w.heap.size ≤ w.heap.size + 1 by omega) (.int .i64 ((b : Nat) : Int)))
  clear HRb3 HAb3 HPb3 HKb3
  go_wp2_with fail
  refine Calls.mono (number_is' B 4194304 s3 _ HR3.out) ?_
  rw [E3.out]
  simp only
  rintro e w4 ⟨rfl, hr, hk⟩
  have HRb4 := hd hr
  have HAb4 := hd (HA3.out.keepO (by omega) hk)
  have HPb4 := hd (HP3.out.keepO (by omega) hk)
  have HKb4 := hd (HK3.out.trans hk)
  clear hr hk HR3 HA3 HP3 HK3
  have hc3 := HPb4.out.cell 3 _ rfl
  have hf3 := HPb4.out.frozen 3
  have HR4 := hd (HRb4.out.setO (p := ⟨w.heap.size + 1, 3, none⟩) (show B < w.heap.size + 1 by omega) (.int .i64 ((c : Nat) : Int)))
  have HA4 := hd (HAb4.out.other (p := ⟨w.heap.size + 1, 3, none⟩) (show w.heap.size + 1 ≠ w.heap.size by omega) (.int .i64 ((c : Nat) : Int)))
  have HP4 := hd (HPb4.out.set (j := 3) (.int .i64 ((c : Nat) : Int)))
  have HK4 := hd (HKb4.out.setO (p := ⟨w.heap.size + 1, 3, none⟩) (show w.heap.size ≤ w.heap.size + 1 by omega) (.int .i64 ((c : Nat) : Int)))
  clear HRb4 HAb4 HPb4 HKb4
  go_wp2_with fail
  refine Calls.mono (rest_is' B s4 _ HR4.out) ?_
  rw [E4.out]
  simp only
  rintro e w5 ⟨rfl, hr, hk⟩
  have HRb5 := hd hr
  have HAb5 := hd (HA4.out.keepO (by omega) hk)
  have HPb5 := hd (HP4.out.keepO (by omega) hk)
  have HKb5 := hd (HK4.out.trans hk)
  clear hr hk HR4 HA4 HP4 HK4
  have hc4 := HPb5.out.cell 4 _ rfl
  have hf4 := HPb5.out.frozen 4
  have g0 := HPb5.out.cell 0 _ rfl
  have a0 := HAb5.out.cell 0 _ rfl
  have z0 := HAb5.out.frozen 0
  have g1 := HPb5.out.cell 1 _ rfl
  have a1 := HAb5.out.cell 1 _ rfl
  have z1 := HAb5.out.frozen 1
  have g2 := HPb5.out.cell 2 _ rfl
  have a2 := HAb5.out.cell 2 _ rfl
  have z2 := HAb5.out.frozen 2
  have g3 := HPb5.out.cell 3 _ rfl
  have a3 := HAb5.out.cell 3 _ rfl
  have z3 := HAb5.out.frozen 3
  have a4 := HAb5.out.cell 4 _ rfl
  have z4 := HAb5.out.frozen 4
  go_wp2_with fail
  have HF : Hid (Blk (setL (w5.setCell ⟨w.heap.size + 1, 4, none⟩ (.string t)) w.heap.size 0 [.int .u64 ((a : Nat) : Int), .int .i64 ((k : Nat) : Int), .int .i64 ((b : Nat) : Int), .int .i64 ((c : Nat) : Int), .string t]) w.heap.size 27 [.int .u64 ((a : Nat) : Int), .int .i64 ((k : Nat) : Int), .int .i64 ((b : Nat) : Int), .int .i64 ((c : Nat) : Int), .string t]) := setL_blk [.int .u64 ((a : Nat) : Int), .int .i64 ((k : Nat) : Int), .int .i64 ((b : Nat) : Int), .int .i64 ((c : Nat) : Int), .string t] _ 0 [] [.int .u64 0, .int .i64 0, .int .i64 0, .int .i64 0, .string ⟨#[]⟩] rfl rfl (HAb5.out.other (p := ⟨w.heap.size + 1, 4, none⟩) (show w.heap.size + 1 ≠ w.heap.size by omega) _)
  refine bodyPost_ret (results_cell_row rfl _ _ w.heap.size 27 #[.int .u64 ((a : Nat) : Int), .int .i64 ((k : Nat) : Int), .int .i64 ((b : Nat) : Int), .int .i64 ((c : Nat) : Int), .string t] (0, 0) _ rfl HF.out Try.underlying27 rfl (by kernel_rfl)) rfl ?_
  refine ⟨rfl, ?_, ?_⟩
  · exact setL_rds (O := w.heap.size) hlt [.int .u64 ((a : Nat) : Int), .int .i64 ((k : Nat) : Int), .int .i64 ((b : Nat) : Int), .int .i64 ((c : Nat) : Int), .string t] _ 0 (HRb5.out.setO (p := ⟨w.heap.size + 1, 4, none⟩) (show B < w.heap.size + 1 by omega) _)
  · exact setL_keepO (O := w.heap.size) [.int .u64 ((a : Nat) : Int), .int .i64 ((k : Nat) : Int), .int .i64 ((b : Nat) : Int), .int .i64 ((c : Nat) : Int), .string t] _ w 0 (Nat.le_refl _) (HKb5.out.setO (p := ⟨w.heap.size + 1, 4, none⟩) (show w.heap.size ≤ w.heap.size + 1 by omega) _)
set_option maxRecDepth 100000 in
set_option maxHeartbeats 1000000 in
theorem edg_is (B : Nat) (s : RS) (w : World) (hR : RDs w B s) :
    Calls Try.prog 95 #[.pointer (some ⟨B, 0, none⟩)] w fun e w' => e = .returned (.agg #[.int .i64 (rEdg s).1.count, .int .i64 (rEdg s).1.bytes, .int .i64 (rEdg s).1.frames, .int .u32 ((rEdg s).1.sum : Int)]) ∧ RDs w' B (rEdg s).2 ∧ KeepO B w w' := by
  obtain ⟨a, s1, e0⟩ : ∃ a s1, rNum 4194304 s = (a, s1) := ⟨_, _, rfl⟩
  have b0 : a ≤ 4194304 := by have := rNum_le 4194304 s; rw [e0] at this; exact this
  obtain ⟨b, s2, e1⟩ : ∃ b s2, rNum 4194304 s1 = (b, s2) := ⟨_, _, rfl⟩
  have b1 : b ≤ 4194304 := by have := rNum_le 4194304 s1; rw [e1] at this; exact this
  obtain ⟨c, s3, e2⟩ : ∃ c s3, rNum 4194304 s2 = (c, s3) := ⟨_, _, rfl⟩
  have b2 : c ≤ 4194304 := by have := rNum_le 4194304 s2; rw [e2] at this; exact this
  obtain ⟨d, s4, e3⟩ : ∃ d s4, rNum 4294967295 s3 = (d, s4) := ⟨_, _, rfl⟩
  have b3 : d ≤ 4294967295 := by have := rNum_le 4294967295 s3; rw [e3] at this; exact this
  have HE : Hid (rEdg s = (⟨(a : Int), (b : Int), (c : Int), d⟩, s4)) := by
    show rEdg s = _
    unfold rEdg
    simp only [e0, e1, e2, e3]
  rw [HE.out]
  simp only
  have E0 := hd e0
  have E1 := hd e1
  have E2 := hd e2
  have E3 := hd e3
  clear e0 e1 e2 e3 HE
  have hlt := hR.lt
  have HR0 := hd ((hR.alloc (.cells #[.int .i64 0, .int .i64 0, .int .i64 0, .int .u32 0] 32)).alloc (.cells #[.int .i64 0, .int .i64 0, .int .i64 0, .int .u32 0] 32))
  clear hR
  have HA0 : Hid (Blk ((w.alloc (.cells #[.int .i64 0, .int .i64 0, .int .i64 0, .int .u32 0] 32)).alloc (.cells #[.int .i64 0, .int .i64 0, .int .i64 0, .int .u32 0] 32)) w.heap.size 32 [.int .i64 0, .int .i64 0, .int .i64 0, .int .u32 0]) := (Blk.new w _ _).alloc _
  have HP0 : Hid (Blk ((w.alloc (.cells #[.int .i64 0, .int .i64 0, .int .i64 0, .int .u32 0] 32)).alloc (.cells #[.int .i64 0, .int .i64 0, .int .i64 0, .int .u32 0] 32)) (w.heap.size + 1) 32 [.int .i64 0, .int .i64 0, .int .i64 0, .int .u32 0]) := by
    have := Blk.new (w.alloc (.cells #[.int .i64 0, .int .i64 0, .int .i64 0, .int .u32 0] 32)) 32 [.int .i64 0, .int .i64 0, .int .i64 0, .int .u32 0]
    rw [World.size_alloc] at this
    exact this
  have HK0 : Hid (KeepO B w ((w.alloc (.cells #[.int .i64 0, .int .i64 0, .int .i64 0, .int .u32 0] 32)).alloc (.cells #[.int .i64 0, .int .i64 0, .int .i64 0, .int .u32 0] 32))) := (KeepO.alloc _ _ _).trans (KeepO.alloc _ _ _)
  go_enter Try.func95, Try.ntmps95
  go_wp2_with fail
  refine Calls.mono (number_is' B 4194304 s _ HR0.out) ?_
  rw [E0.out]
  simp only
  rintro e w1 ⟨rfl, hr, hk⟩
  have HRb1 := hd hr
  have HAb1 := hd (HA0.out.keepO (by omega) hk)
  have HPb1 := hd (HP0.out.keepO (by omega) hk)
  have HKb1 := hd (HK0.out.trans hk)
  clear hr hk HR0 HA0 HP0 HK0
  have hc0 := HPb1.out.cell 0 _ rfl
  have hf0 := HPb1.out.frozen 0
  have HR1 := hd (HRb1.out.setO (p := ⟨w.heap.size + 1, 0, none⟩) (show B < w.heap.size + 1 by omega) (.int .i64 ((a : Nat) : Int)))
  have HA1 := hd (HAb1.out.other (p := ⟨w.heap.size + 1, 0, none⟩) (show w.heap.size + 1 ≠ w.heap.size by omega) (.int .i64 ((a : Nat) : Int)))
  have HP1 := hd (HPb1.out.set (j := 0) (.int .i64 ((a : Nat) : Int)))
  have HK1 := hd (HKb1.out.setO (p := ⟨w.heap.size + 1, 0, none⟩) (show w.heap.size ≤ w.heap.size + 1 by omega) (.int .i64 ((a : Nat) : Int)))
  clear HRb1 HAb1 HPb1 HKb1
  go_wp2_with fail
  refine Calls.mono (number_is' B 4194304 s1 _ HR1.out) ?_
  rw [E1.out]
  simp only
  rintro e w2 ⟨rfl, hr, hk⟩
  have HRb2 := hd hr
  have HAb2 := hd (HA1.out.keepO (by omega) hk)
  have HPb2 := hd (HP1.out.keepO (by omega) hk)
  have HKb2 := hd (HK1.out.trans hk)
  clear hr hk HR1 HA1 HP1 HK1
  have hc1 := HPb2.out.cell 1 _ rfl
  have hf1 := HPb2.out.frozen 1
  have HR2 := hd (HRb2.out.setO (p := ⟨w.heap.size + 1, 1, none⟩) (show B < w.heap.size + 1 by omega) (.int .i64 ((b : Nat) : Int)))
  have HA2 := hd (HAb2.out.other (p := ⟨w.heap.size + 1, 1, none⟩) (show w.heap.size + 1 ≠ w.heap.size by omega) (.int .i64 ((b : Nat) : Int)))
  have HP2 := hd (HPb2.out.set (j := 1) (.int .i64 ((b : Nat) : Int)))
  have HK2 := hd (HKb2.out.setO (p := ⟨w.heap.size + 1, 1, none⟩) (show w.heap.size ≤ w.heap.size + 1 by omega) (.int .i64 ((b : Nat) : Int)))
  clear HRb2 HAb2 HPb2 HKb2
  go_wp2_with fail
  refine Calls.mono (number_is' B 4194304 s2 _ HR2.out) ?_
  rw [E2.out]
  simp only
  rintro e w3 ⟨rfl, hr, hk⟩
  have HRb3 := hd hr
  have HAb3 := hd (HA2.out.keepO (by omega) hk)
  have HPb3 := hd (HP2.out.keepO (by omega) hk)
  have HKb3 := hd (HK2.out.trans hk)
  clear hr hk HR2 HA2 HP2 HK2
  have hc2 := HPb3.out.cell 2 _ rfl
  have hf2 := HPb3.out.frozen 2
  have HR3 := hd (HRb3.out.setO (p := ⟨w.heap.size + 1, 2, none⟩) (show B < w.heap.size + 1 by omega) (.int .i64 ((c : Nat) : Int)))
  have HA3 := hd (HAb3.out.other (p := ⟨w.heap.size + 1, 2, none⟩) (show w.heap.size + 1 ≠ w.heap.size by omega) (.int .i64 ((c : Nat) : Int)))
  have HP3 := hd (HPb3.out.set (j := 2) (.int .i64 ((c : Nat) : Int)))
  have HK3 := hd (HKb3.out.setO (p := ⟨w.heap.size + 1, 2, none⟩) (show w.heap.size ≤ w.heap.size + 1 by omega) (.int .i64 ((c : Nat) : Int)))
  clear HRb3 HAb3 HPb3 HKb3
  go_wp2_with fail
  refine Calls.mono (number_is' B 4294967295 s3 _ HR3.out) ?_
  rw [E3.out]
  simp only
  rintro e w4 ⟨rfl, hr, hk⟩
  have HRb4 := hd hr
  have HAb4 := hd (HA3.out.keepO (by omega) hk)
  have HPb4 := hd (HP3.out.keepO (by omega) hk)
  have HKb4 := hd (HK3.out.trans hk)
  clear hr hk HR3 HA3 HP3 HK3
  have hc3 := HPb4.out.cell 3 _ rfl
  have hf3 := HPb4.out.frozen 3
  have g0 := HPb4.out.cell 0 _ rfl
  have a0 := HAb4.out.cell 0 _ rfl
  have z0 := HAb4.out.frozen 0
  have g1 := HPb4.out.cell 1 _ rfl
  have a1 := HAb4.out.cell 1 _ rfl
  have z1 := HAb4.out.frozen 1
  have g2 := HPb4.out.cell 2 _ rfl
  have a2 := HAb4.out.cell 2 _ rfl
  have z2 := HAb4.out.frozen 2
  have a3 := HAb4.out.cell 3 _ rfl
  have z3 := HAb4.out.frozen 3
  go_wp2_with fail
  have HF : Hid (Blk (setL (w4.setCell ⟨w.heap.size + 1, 3, none⟩ (.int .u32 ((d : Nat) : Int))) w.heap.size 0 [.int .i64 ((a : Nat) : Int), .int .i64 ((b : Nat) : Int), .int .i64 ((c : Nat) : Int), .int .u32 ((d : Nat) : Int)]) w.heap.size 32 [.int .i64 ((a : Nat) : Int), .int .i64 ((b : Nat) : Int), .int .i64 ((c : Nat) : Int), .int .u32 ((d : Nat) : Int)]) := setL_blk [.int .i64 ((a : Nat) : Int), .int .i64 ((b : Nat) : Int), .int .i64 ((c : Nat) : Int), .int .u32 ((d : Nat) : Int)] _ 0 [] [.int .i64 0, .int .i64 0, .int .i64 0, .int .u32 0] rfl rfl (HAb4.out.other (p := ⟨w.heap.size + 1, 3, none⟩) (show w.heap.size + 1 ≠ w.heap.size by omega) _)
  refine bodyPost_ret (results_cell_row rfl _ _ w.heap.size 32 #[.int .i64 ((a : Nat) : Int), .int .i64 ((b : Nat) : Int), .int .i64 ((c : Nat) : Int), .int .u32 ((d : Nat) : Int)] (0, 0) _ rfl HF.out Try.underlying32 rfl (by kernel_rfl)) rfl ?_
  refine ⟨rfl, ?_, ?_⟩
  · exact setL_rds (O := w.heap.size) hlt [.int .i64 ((a : Nat) : Int), .int .i64 ((b : Nat) : Int), .int .i64 ((c : Nat) : Int), .int .u32 ((d : Nat) : Int)] _ 0 (HRb4.out.setO (p := ⟨w.heap.size + 1, 3, none⟩) (show B < w.heap.size + 1 by omega) _)
  · exact setL_keepO (O := w.heap.size) [.int .i64 ((a : Nat) : Int), .int .i64 ((b : Nat) : Int), .int .i64 ((c : Nat) : Int), .int .u32 ((d : Nat) : Int)] _ w 0 (Nat.le_refl _) (HKb4.out.setO (p := ⟨w.heap.size + 1, 3, none⟩) (show w.heap.size ≤ w.heap.size + 1 by omega) _)
end Vt
end Go.Proofs.Ytnjhbidialngmaa
