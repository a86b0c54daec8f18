/-
  THE WALKS OF slices.Grow (of nil) and slices.Concat of lists of bytes: one row of the call's own, all lists one behind the other.
  PLAIN MATHEMATICS OF ESCAPED BYTES: 'wr' (the escaped bytes of plain ones), 'fs' (the plain byte at the front), 'told' (what is told, with places), 'bad' (the first that cannot stand). No program.
  BYTES AS A STRING, A STRING'S BYTES. No program here.
  FRAMES, PLAINLY: what a frame has, why it may not be, its body, how a body is taken apart. No program here.
-/
import Derived.Test.YtnjhbidialngmaaXhaa
import Derived.Lib.AppendZeros
namespace Go.Proofs.Ytnjhbidialngmaa
open Go.RowKit
namespace Vt
theorem zeros_jb (w : World) (n cap : Nat) (hn : n ≤ cap) (hm : cap ≤ maxLen) : JB (w.drew.alloc (.cells (Builtin.zeroCells (Value.int .u8 0).cells n ++ Builtin.zeroCells (Value.int .u8 0).cells (cap - n)) 5)) w.heap.size (.slice (some ⟨w.heap.size, 0, none⟩) 0 cap) [] := by
  refine ⟨byt_nil, by simp [bs], .inr ⟨w.heap.size, cap, Builtin.zeroCells (Value.int .u8 0).cells n ++ Builtin.zeroCells (Value.int .u8 0).cells (cap - n), rfl, Nat.le_refl _, ?_, Nat.zero_le _, hm, ?_, by simp [bs]⟩⟩
  · show (w.drew.heap.push _)[w.heap.size]? = _
    rw [show w.heap.size = w.drew.heap.size from rfl, Array.getElem?_push_size]
  · simp [Builtin.zeroCells, Value.cells]; omega
set_option maxRecDepth 100000 in
set_option maxHeartbeats 400000 in
theorem grow_nil (n : Nat) (w : World) (h0 : 0 < n) (hm : n ≤ 140737488355328) :
    Calls Try.prog 54 #[.slice none 0 0, .int .i64 (n : Int)] w fun e w' => ∃ cap, e = .returned (.slice (some ⟨w.heap.size, 0, none⟩) 0 cap) ∧ JB w' w.heap.size (.slice (some ⟨w.heap.size, 0, none⟩) 0 cap) [] ∧ Below w.heap.size w w' := by
  obtain ⟨i0, hi, hz0, hz1, hz2⟩ := info_parts info_u8
  have hrun := fun (ty : TypeId) => Lib.run_append_nil_zeros (P := Try.prog) w 36 3 ty 5 i0 (.int .u8 0) .i64 .i64 Try.underlying36 Try.underlying3 hi hz0 n h0 (by omega) (by omega) (by rw [hz2]; omega)
  have hge := grownCap_ge w n 0 5
  have hle := grownCap_le_maxLen w n 0 5 (by unfold maxLen; omega)
  have HJ := hd (zeros_jb w n _ hge hle)
  have hle2 := hle
  unfold maxLen at hle2
  generalize grownCap w n 0 5 = cap at *
  have HB : Hid (Below w.heap.size w (w.drew.alloc (.cells (Builtin.zeroCells (Value.int .u8 0).cells n ++ Builtin.zeroCells (Value.int .u8 0).cells (cap - n)) 5))) := (below_drewN (Below.refl _ _) 1).alloc (Nat.le_refl _) _
  generalize (w.drew.alloc (.cells (Builtin.zeroCells (Value.int .u8 0).cells n ++ Builtin.zeroCells (Value.int .u8 0).cells (cap - n)) 5)) = w1 at *
  go_enter Try.func54, Try.ntmps54
  go_wp2_with (at_builtin; refine Lib.wpList_append_run _ rfl _ _ _ _ rfl _ _ rfl rfl _ _ (hrun _) ?_)
  go_ret
  exact ⟨cap, rfl, HJ.out, HB.out⟩
/-- a slice of slices of bytes -/
def Ps (w : World) (b off : Nat) (ls : List (List Nat)) : Prop := ∀ i, i < ls.length → ∃ v, w.cell? ⟨b, off + i, none⟩ = some v ∧ IsB w v (ls.getD i [])
theorem ps_succ {ls : List (List Nat)} {k : Nat} (h : k < ls.length) : (ls.take (k + 1)).flatten = (ls.take k).flatten ++ ls.getD k [] := by
  rw [List.take_succ_eq_append_getElem h, List.getD_eq_getElem?_getD, List.getElem?_eq_getElem h, List.flatten_append]; simp
theorem ps_le (ls : List (List Nat)) (k : Nat) : (ls.take k).flatten.length ≤ ls.flatten.length := by
  have : ls.flatten = (ls.take k).flatten ++ (ls.drop k).flatten := by rw [← List.flatten_append, List.take_append_drop]
  rw [this, List.length_append]; omega
set_option maxRecDepth 100000 in
set_option maxHeartbeats 400000 in
theorem concat_row (b off c : Nat) (ls : List (List Nat)) (w : World) (hb : b < w.heap.size) (hn : ls.length ≤ 1000) (hP : Ps w b off ls) (h0 : 0 < ls.flatten.length) (hm : ls.flatten.length ≤ 140737488355328) :
    Calls Try.prog 25 #[.slice (some ⟨b, off, none⟩) ls.length c] w fun e w' => ∃ u, e = .returned u ∧ JB w' w.heap.size u ls.flatten ∧ Below w.heap.size w w' := by
  have HP := hd hP
  clear hP
  have HG := hd (grow_nil ls.flatten.length w h0 hm)
  have HPS := hd (ps_le ls)
  generalize hT : ls.flatten.length = T at *
  have HT := hd hT
  clear hT
  go_enter Try.func25, Try.ntmps25
  go_wp2_with fail
  go_loop [3, 11] (fun s i => ∃ k : Nat, k ≤ ls.length ∧ i = .int .i64 (k : Int) ∧ s = .int .i64 (((ls.take k).flatten.length : Nat) : Int)) (fun _ i => ls.length - (intOf i).toNat)
  case atStart => exact ⟨0, by omega, rfl, rfl⟩
  case round =>
    obtain ⟨k, hk, rfl, rfl⟩ := hrel
    by_cases hlt : k < ls.length
    · obtain ⟨v, hv, hB⟩ := HP.out k hlt
      have he := congrArg List.length (ps_succ hlt)
      have hle := HPS.out (k + 1)
      rw [List.length_append] at he
      rw [he] at hle
      have HE := hd he
      clear he
      obtain ⟨a, c', e⟩ := hB.shape
      subst e
      clear hB
      generalize (ls.take k).flatten.length = s at *
      generalize (ls.getD k []).length = d at *
      go_wp2_with fail
      go_round
      case rel => exact ⟨k + 1, hlt, by go_num, by rw [HE.out]; rfl⟩
      case measure => simp [intOf]; omega
    · obtain rfl : k = ls.length := by omega
      rw [List.take_length, HT.out]
      go_wp2_with fail
      refine Calls.mono HG.out ?_
      rintro e w1 ⟨cap, rfl, hJ1, hB1⟩
      have HJ1 := hd hJ1
      have HB1 := hd hB1
      clear hJ1 hB1 HG
      go_wp2_with fail
      go_loopw [6, 27] (fun v i wr => ∃ k : Nat, k ≤ ls.length ∧ i = .int .i64 (k : Int) ∧ JB wr w.heap.size v (ls.take k).flatten ∧ Below w.heap.size w wr) (fun _ i _ => ls.length - (intOf i).toNat)
      case atStart => exact ⟨0, by omega, rfl, HJ1.out, HB1.out⟩
      case round =>
        obtain ⟨k, hk, rfl, hJ, hBB⟩ := hrel
        have HJ := hd hJ
        have HBB := hd hBB
        clear hJ hBB HJ1 HB1
        by_cases hlt : k < ls.length
        · obtain ⟨u, hv, hB⟩ := HP.out k hlt
          have HI := hd (hB.below HBB.out)
          have hc : wr.cell? ⟨b, off + k, none⟩ = some u := by rw [HBB.out.cell hb]; exact hv
          have HE := hd (ps_succ hlt)
          have hle := HPS.out (k + 1)
          have hl2 := congrArg List.length HE.out
          rw [List.length_append] at hl2
          have hsz := HBB.out.size
          clear hv hB
          obtain ⟨R, hR⟩ : ∃ R, R = (ls.take (k + 1)).flatten := ⟨_, rfl⟩
          obtain ⟨A, hA⟩ : ∃ A, A = (ls.take k).flatten := ⟨_, rfl⟩
          obtain ⟨D, hD⟩ : ∃ D, D = ls.getD k [] := ⟨_, rfl⟩
          rw [← hR, ← hA, ← hD] at HE
          rw [← hR] at hle hl2
          rw [← hA, ← hD] at hl2
          rw [← hA] at HJ
          rw [← hD] at HI
          have HR := hd hR
          clear hR hA hD
          go_wp2_with (at_builtin; refine wpList_append_jb _ rfl _ _ rfl w.heap.size _ _ _ _ rfl rfl HJ.out HI.out _ hl2.symm _ HE.out.symm (by omega) hsz ?_; intro a2 cap2 w2 hJ2 hg2 hc2)
          have HJ2 := hd hJ2
          have HB2 := hd (HJ.out.grown HBB.out (Nat.le_refl _) hsz hg2)
          clear hJ2 hg2
          go_roundw
          case rel => exact ⟨k + 1, hlt, by go_num, by rw [← HR.out]; have := HJ2.out; rw [hl2] at this; exact this, HB2.out⟩
          case measure => simp [intOf]; omega
        · obtain rfl : k = ls.length := by omega
          rw [List.take_length] at HJ
          go_wp2_with fail
          go_ret
          exact ⟨_, rfl, HJ.out, HBB.out⟩
end Vt
end Go.Proofs.Ytnjhbidialngmaa
namespace Go.Proofs.Ytnjhbidialngmaa
namespace Vt
def e1 (c : Nat) : List Nat := if c = 167 then [166, 1] else if c = 166 then [166, 0] else [c]
def wr : List Nat → List Nat
  | [] => []
  | c :: r => e1 c ++ wr r
theorem e1_lead : e1 167 = [166, 1] := rfl
theorem e1_esc : e1 166 = [166, 0] := rfl
theorem e1_any {c : Nat} (h : c ≠ 167) (h2 : c ≠ 166) : e1 c = [c] := by unfold e1; rw [if_neg h, if_neg h2]
theorem wr_append (a b : List Nat) : wr (a ++ b) = wr a ++ wr b := by
  induction a with
  | nil => rfl
  | cons c r ih => rw [List.cons_append, wr, wr, ih, List.append_assoc]
theorem wr_one (c : Nat) : wr [c] = e1 c := by simp [wr]
theorem wr_succ {l : List Nat} {k : Nat} (h : k < l.length) : wr (l.take (k + 1)) = wr (l.take k) ++ e1 (l.getD k 0) := by
  rw [take_succ_getD h, wr_append, wr_one]
theorem e1_len (c : Nat) : 1 ≤ (e1 c).length ∧ (e1 c).length ≤ 2 := by
  unfold e1
  split
  · simp
  · split <;> simp
theorem wr_len (l : List Nat) : l.length ≤ (wr l).length ∧ (wr l).length ≤ 2 * l.length := by
  induction l with
  | nil => simp [wr]
  | cons c r ih =>
    have := e1_len c
    rw [wr, List.length_append, List.length_cons]; omega
theorem e1_byt {c : Nat} (h : c < 256) : Byt (e1 c) := by
  unfold e1
  split
  · intro x hx; simp at hx; omega
  · split
    · intro x hx; simp at hx; omega
    · intro x hx; simp at hx; omega
theorem wr_byt {l : List Nat} (h : Byt l) : Byt (wr l) := by
  induction l with
  | nil => exact byt_nil
  | cons c r ih => rw [wr]; exact byt_app (e1_byt (h c List.mem_cons_self)) (ih fun x hx => h x (List.mem_cons_of_mem _ hx))
theorem e1_no (c : Nat) : ∀ x ∈ e1 c, x ≠ 167 := by
  unfold e1
  split
  · intro x hx; simp at hx; omega
  · split
    · intro x hx; simp at hx; omega
    · intro x hx; simp at hx; omega
theorem wr_no (l : List Nat) : ∀ x ∈ wr l, x ≠ 167 := by
  induction l with
  | nil => intro x hx; simp [wr] at hx
  | cons c r ih =>
    intro x hx
    rw [wr] at hx
    rcases List.mem_append.1 hx with hx | hx
    · exact e1_no c x hx
    · exact ih x hx
/-- the plain byte at the front, how many bytes it takes, what is wrong -/
def fs (l : List Nat) : Nat × Nat × Nat :=
  if l.getD 0 0 = 167 then (0, 0, 31) else if l.getD 0 0 ≠ 166 then (l.getD 0 0, 1, 0) else if l.length = 1 then (0, 0, 32)
  else if l.getD 1 0 = 0 then (166, 2, 0) else if l.getD 1 0 = 1 then (167, 2, 0) else (0, 0, 32)
/-- what is told: the places from at_ on -/
def told : Nat → Nat → List Nat → List (Nat × Nat)
  | 0, _, _ => []
  | f + 1, at_, l => if l = [] then [] else if (fs l).2.2 = 0 then (at_, (fs l).1) :: told f (at_ + (fs l).2.1) (l.drop (fs l).2.1) else []
/-- what is wrong, and where -/
def bad : Nat → Nat → List Nat → Nat × Nat
  | 0, _, _ => (0, 0)
  | f + 1, at_, l => if l = [] then (0, 0) else if (fs l).2.2 = 0 then bad f (at_ + (fs l).2.1) (l.drop (fs l).2.1) else ((fs l).2.2, at_)
theorem fs_front (c : Nat) (r : List Nat) : fs (e1 c ++ r) = (c, (e1 c).length, 0) := by
  by_cases h : c = 167
  · subst h; simp [e1, fs]
  · by_cases h2 : c = 166
    · subst h2; simp [e1, fs]
    · rw [e1_any h h2]; simp [fs, h, h2]
theorem fs_ok {l : List Nat} (hne : l ≠ []) (h : (fs l).2.2 = 0) : l = e1 (fs l).1 ++ l.drop (fs l).2.1 ∧ (fs l).2.1 = (e1 (fs l).1).length := by
  match l, hne with
  | [c], _ =>
    unfold fs at *
    by_cases h1 : c = 167
    · simp [h1] at h
    · by_cases h2 : c = 166
      · simp [h2] at h
      · simp [h1, h2, e1_any h1 h2]
  | c :: d :: r, _ =>
    unfold fs at *
    by_cases h1 : c = 167
    · simp [h1] at h
    · by_cases h2 : c = 166
      · by_cases h3 : d = 0
        · simp [h2, h3, e1]
        · by_cases h4 : d = 1
          · simp [h2, h4, e1]
          · simp [h2, h3, h4] at h
      · simp [h1, h2, e1_any h1 h2]
theorem fs_len {l : List Nat} (hne : l ≠ []) (h : (fs l).2.2 = 0) : 1 ≤ (fs l).2.1 ∧ (fs l).2.1 ≤ l.length ∧ (fs l).2.1 ≤ 2 := by
  have h1 := fs_ok hne h
  have h2 := e1_len (fs l).1
  have h3 := congrArg List.length h1.1
  rw [List.length_append] at h3
  omega
theorem fs_byt {l : List Nat} (hb : Byt l) : (fs l).1 < 256 := by
  have := getD_lt hb 0
  unfold fs
  repeat' split
  all_goals (simp only; omega)
theorem fs_err (l : List Nat) : (fs l).2.2 = 0 ∨ (fs l).2.2 = 31 ∧ l.getD 0 0 = 167 ∨ (fs l).2.2 = 32 ∧ l.getD 0 0 = 166 := by
  unfold fs
  by_cases h1 : l.getD 0 0 = 167
  · rw [if_pos h1]; exact .inr (.inl ⟨rfl, h1⟩)
  · rw [if_neg h1]
    by_cases h2 : l.getD 0 0 = 166
    · rw [if_neg (by simpa using h2)]
      repeat' split
      all_goals first | exact .inl rfl | exact .inr (.inr ⟨rfl, h2⟩)
    · rw [if_pos h2]; simp
def toldB (at_ : Nat) (l : List Nat) : List (Nat × Nat) := told l.length at_ l
def badB (at_ : Nat) (l : List Nat) : Nat × Nat := bad l.length at_ l
theorem told_fuel (f : Nat) : ∀ (g at_ : Nat) (l : List Nat), l.length ≤ f → l.length ≤ g → told f at_ l = told g at_ l ∧ bad f at_ l = bad g at_ l := by
  induction f with
  | zero =>
    intro g at_ l h1 h2
    obtain rfl : l = [] := List.length_eq_zero_iff.1 (by omega)
    cases g with
    | zero => exact ⟨rfl, rfl⟩
    | succ g => simp [told, bad]
  | succ f ih =>
    intro g at_ l h1 h2
    cases g with
    | zero =>
      obtain rfl : l = [] := List.length_eq_zero_iff.1 (by omega)
      simp [told, bad]
    | succ g =>
      unfold told bad
      by_cases h : l = []
      · simp [h]
      · rw [if_neg h, if_neg h, if_neg h, if_neg h]
        by_cases he : (fs l).2.2 = 0
        · have := fs_len h he
          have hh := ih g (at_ + (fs l).2.1) (l.drop (fs l).2.1) (by rw [List.length_drop]; omega) (by rw [List.length_drop]; omega)
          rw [if_pos he, if_pos he, if_pos he, if_pos he, hh.1, hh.2]; exact ⟨rfl, rfl⟩
        · rw [if_neg he, if_neg he, if_neg he, if_neg he]; exact ⟨rfl, rfl⟩
theorem toldB_nil (at_ : Nat) : toldB at_ [] = [] := rfl
theorem badB_nil (at_ : Nat) : badB at_ [] = (0, 0) := rfl
theorem toldB_ok {at_ : Nat} {l : List Nat} (h : l ≠ []) (he : (fs l).2.2 = 0) : toldB at_ l = (at_, (fs l).1) :: toldB (at_ + (fs l).2.1) (l.drop (fs l).2.1) := by
  have hd := fs_len h he
  obtain ⟨m, hm⟩ : ∃ m, l.length = m + 1 := ⟨l.length - 1, by omega⟩
  unfold toldB
  rw [hm, told, if_neg h, if_pos he, (told_fuel m _ _ _ (by rw [List.length_drop]; omega) (Nat.le_refl _)).1]
theorem badB_ok {at_ : Nat} {l : List Nat} (h : l ≠ []) (he : (fs l).2.2 = 0) : badB at_ l = badB (at_ + (fs l).2.1) (l.drop (fs l).2.1) := by
  have hd := fs_len h he
  obtain ⟨m, hm⟩ : ∃ m, l.length = m + 1 := ⟨l.length - 1, by omega⟩
  unfold badB
  rw [hm, bad, if_neg h, if_pos he, (told_fuel m _ _ _ (by rw [List.length_drop]; omega) (Nat.le_refl _)).2]
theorem toldB_err {at_ : Nat} {l : List Nat} (he : (fs l).2.2 ≠ 0) : toldB at_ l = [] := by
  unfold toldB
  cases l with
  | nil => rfl
  | cons x r => rw [List.length_cons, told, if_neg (by simp), if_neg he]
theorem badB_err {at_ : Nat} {l : List Nat} (h : l ≠ []) (he : (fs l).2.2 ≠ 0) : badB at_ l = ((fs l).2.2, at_) := by
  unfold badB
  cases l with
  | nil => exact absurd rfl h
  | cons x r => rw [List.length_cons, bad, if_neg (by simp), if_neg he]
/-- plain bytes with the places of what they are written as -/
def pl : Nat → List Nat → List (Nat × Nat)
  | _, [] => []
  | p, c :: r => (p, c) :: pl (p + (e1 c).length) r
theorem e1_ne (c : Nat) (r : List Nat) : e1 c ++ r ≠ [] := by
  have := e1_len c
  intro e
  have := congrArg List.length e
  rw [List.length_append, List.length_nil] at this
  omega
theorem both_wr (p r : List Nat) : ∀ at_, toldB at_ (wr p ++ r) = pl at_ p ++ toldB (at_ + (wr p).length) r ∧ badB at_ (wr p ++ r) = badB (at_ + (wr p).length) r := by
  induction p with
  | nil => intro at_; exact ⟨rfl, rfl⟩
  | cons c q ih =>
    intro at_
    have hf := fs_front c (wr q ++ r)
    have hne := e1_ne c (wr q ++ r)
    rw [wr, List.append_assoc, toldB_ok hne (by rw [hf]), badB_ok hne (by rw [hf]), hf]
    simp only
    rw [List.drop_left' rfl, (ih _).1, (ih _).2, pl, List.length_append, Nat.add_assoc]
    exact ⟨rfl, rfl⟩
theorem toldB_wr (p : List Nat) (at_ : Nat) : toldB at_ (wr p) = pl at_ p := by
  have := (both_wr p [] at_).1
  rwa [List.append_nil, toldB_nil, List.append_nil] at this
theorem badB_wr (p : List Nat) (at_ : Nat) : badB at_ (wr p) = (0, 0) := by
  have := (both_wr p [] at_).2
  rwa [List.append_nil, badB_nil] at this
theorem pl_snd (at_ : Nat) (p : List Nat) : (pl at_ p).map Prod.snd = p := by
  induction p generalizing at_ with
  | nil => rfl
  | cons c r ih => simp [pl, ih]
/-- whatever bytes: escaped ones, and behind them nothing, or what cannot stand -/
theorem parts (n : Nat) : ∀ l : List Nat, l.length ≤ n → ∃ p r, l = wr p ++ r ∧ (r = [] ∨ r ≠ [] ∧ (fs r).2.2 ≠ 0) := by
  induction n with
  | zero => intro l h; exact ⟨[], [], List.length_eq_zero_iff.1 (by omega), .inl rfl⟩
  | succ n ih =>
    intro l h
    by_cases h0 : l = []
    · exact ⟨[], [], h0, .inl rfl⟩
    · by_cases he : (fs l).2.2 = 0
      · have h1 := fs_len h0 he
        have h2 := fs_ok h0 he
        obtain ⟨p, r, e, hr⟩ := ih (l.drop (fs l).2.1) (by rw [List.length_drop]; omega)
        refine ⟨(fs l).1 :: p, r, ?_, hr⟩
        rw [wr, List.append_assoc, ← e]; exact h2.1
      · exact ⟨[], l, rfl, .inr ⟨h0, he⟩⟩
theorem part (l : List Nat) : ∃ p r, l = wr p ++ r ∧ (r = [] ∨ r ≠ [] ∧ (fs r).2.2 ≠ 0) := parts _ l (Nat.le_refl _)
theorem part_byt {p r l : List Nat} (h : l = wr p ++ r) (hb : Byt l) : Byt p := by
  induction p generalizing l with
  | nil => exact byt_nil
  | cons c q ih =>
    intro x hx
    rw [wr, List.append_assoc] at h
    rcases List.mem_cons.1 hx with rfl | hx
    · have h1 := e1_len x
      by_cases h2 : x = 167
      · omega
      · by_cases h3 : x = 166
        · omega
        · rw [e1_any h2 h3] at h; exact hb x (by rw [h]; simp)
    · exact ih (l := wr q ++ r) rfl (fun y hy => hb y (by rw [h]; exact List.mem_append_right _ hy)) x hx
/-- .. what is told of such bytes -/
theorem part_fine {p : List Nat} : toldB 0 (wr p ++ []) = pl 0 p ∧ badB 0 (wr p ++ []) = (0, 0) := by
  rw [List.append_nil]; exact ⟨toldB_wr p 0, badB_wr p 0⟩
theorem part_bad {p r : List Nat} (h : r ≠ []) (he : (fs r).2.2 ≠ 0) : toldB 0 (wr p ++ r) = pl 0 p ∧ badB 0 (wr p ++ r) = ((fs r).2.2, (wr p).length) := by
  have := both_wr p r 0
  rw [toldB_err he, badB_err h he, List.append_nil, Nat.zero_add] at this
  exact this
theorem toldB_len (at_ : Nat) (l : List Nat) : (toldB at_ l).length ≤ l.length := by
  have key : ∀ f at_ l, (told f at_ l).length ≤ f := by
    intro f
    induction f with
    | zero => intro at_ l; simp [told]
    | succ f ih =>
      intro at_ l
      unfold told
      split
      · simp
      · split
        · rw [List.length_cons]; have := ih (at_ + (fs l).2.1) (l.drop (fs l).2.1); omega
        · simp
  exact key _ _ _
/-- the plain bytes of escaped ones -/
def plain (l : List Nat) : List Nat := (toldB 0 l).map Prod.snd
theorem plain_len (l : List Nat) : (plain l).length ≤ l.length := by
  unfold plain; rw [List.length_map]; exact toldB_len 0 l
theorem plain_byt {l : List Nat} (hb : Byt l) : Byt (plain l) := by
  obtain ⟨p, r, e, h⟩ := part l
  have hp := part_byt e hb
  subst e
  unfold plain
  rcases h with rfl | ⟨h1, h2⟩
  · rw [part_fine.1, pl_snd]; exact hp
  · rw [(part_bad h1 h2).1, pl_snd]; exact hp
theorem plain_wr (p : List Nat) : plain (wr p) = p := by unfold plain; rw [toldB_wr, pl_snd]
/-- what is opened comes, wrapped, to what was opened -/
theorem only {l : List Nat} (h : (badB 0 l).1 = 0) : wr (plain l) = l := by
  obtain ⟨p, r, e, hr⟩ := part l
  subst e
  rcases hr with rfl | ⟨h1, h2⟩
  · rw [List.append_nil, plain_wr]
  · rw [(part_bad h1 h2).2] at h; exact absurd h h2
theorem badB_zero {l : List Nat} (h : (badB 0 l).1 = 0) : badB 0 l = (0, 0) := by
  obtain ⟨p, r, e, hr⟩ := part l
  subst e
  rcases hr with rfl | ⟨h1, h2⟩
  · exact part_fine.2
  · rw [(part_bad h1 h2).2] at h; exact absurd h h2
end Vt
end Go.Proofs.Ytnjhbidialngmaa
namespace Go.Proofs.Ytnjhbidialngmaa
namespace Vt
/-- bytes as a string -/
def str (l : List Nat) : ByteArray := (l.map fun x => ((x : Nat) : Int)).foldl (fun r n => r.push (UInt8.ofNat n.toNat)) ByteArray.empty
theorem str_data (l : List Nat) : (str l).data = (l.map UInt8.ofNat).toArray := by
  have key : ∀ (l : List Nat) (r : ByteArray), ((l.map fun x => ((x : Nat) : Int)).foldl (fun r n => r.push (UInt8.ofNat n.toNat)) r).data = r.data ++ (l.map UInt8.ofNat).toArray := by
    intro l
    induction l with
    | nil => intro r; simp
    | cons x q ih =>
      intro r
      simp only [List.map_cons, List.foldl_cons, Int.toNat_natCast]
      rw [ih]
      simp [ByteArray.push]
  have := key l ByteArray.empty
  unfold str
  rw [this]; simp
/-- a string's bytes -/
def bl (s : ByteArray) : List Nat := s.data.toList.map UInt8.toNat
theorem bl_len (s : ByteArray) : (bl s).length = s.size := by unfold bl; rw [List.length_map, Array.length_toList]; rfl
theorem bl_byt (s : ByteArray) : Byt (bl s) := by
  intro x hx
  unfold bl at hx
  obtain ⟨y, _, rfl⟩ := List.mem_map.1 hx
  exact y.toNat_lt
theorem bl_str {l : List Nat} (h : Byt l) : bl (str l) = l := by
  unfold bl
  rw [str_data, List.map_map]
  induction l with
  | nil => rfl
  | cons x q ih =>
    have hx := h x List.mem_cons_self
    rw [List.map_cons, ih fun z hz => h z (List.mem_cons_of_mem _ hz)]
    congr 1
    simp only [Function.comp, UInt8.toNat_ofNat']
    omega
theorem str_bl (s : ByteArray) : str (bl s) = s := by
  refine ByteArray.ext ?_
  rw [str_data]
  unfold bl
  rw [List.map_map, show (UInt8.ofNat ∘ UInt8.toNat) = id by funext y; simp]
  simp
theorem bl_inj {s t : ByteArray} (h : bl s = bl t) : s = t := by rw [← str_bl s, h, str_bl]
theorem str_size {l : List Nat} (h : Byt l) : (str l).size = l.length := by rw [← bl_len, bl_str h]
end Vt
end Go.Proofs.Ytnjhbidialngmaa
namespace Go.Proofs.Ytnjhbidialngmaa
namespace Vt
structure Rec where
  lsn : Nat
  kind : Int
  key : ByteArray
  val : ByteArray
structure Ptr where
  lsn : Nat
  kind : Int
  at_ : Int
  len : Int
  key : ByteArray
structure Edg where
  count : Int
  bytes : Int
  frames : Int
  sum : Nat
structure Fr where
  kind : Int
  r : Rec
  p : Ptr
  e : Edg
def zr : Rec := ⟨0, 0, ByteArray.empty, ByteArray.empty⟩
def zp : Ptr := ⟨0, 0, 0, 0, ByteArray.empty⟩
def ze : Edg := ⟨0, 0, 0, 0⟩
def zf : Fr := ⟨0, zr, zp, ze⟩
/-- as the types have it -/
def Fr.Wf (f : Fr) : Prop := f.r.lsn < 18446744073709551616 ∧ f.p.lsn < 18446744073709551616 ∧ f.e.sum < 4294967296
def ofR (r : Rec) : Fr := ⟨r.kind, r, zp, ze⟩
def mayKey (s : ByteArray) : Prop := 1 ≤ s.size ∧ s.size ≤ 64
def onD (n : Int) : Prop := 0 ≤ n ∧ n ≤ 4194304
open Classical in
noncomputable def rfR (f : Fr) : Nat := if f.r.kind ≠ f.kind then 46 else if f.r.lsn = 0 then 47 else if ¬ mayKey f.r.key then 48 else if (if f.r.kind = 2 then 0 else 2048) < f.r.val.size then 49 else if f ≠ ofR f.r then 40 else 0
open Classical in
noncomputable def rfP (f : Fr) : Nat := if f.p.kind ≠ 1 ∧ f.p.kind ≠ 2 then 46 else if f.p.lsn = 0 then 47 else if ¬ mayKey f.p.key then 48 else if ¬ onD f.p.at_ ∨ ¬ onD f.p.len ∨ f.p.len = 0 then 40 else if f ≠ ⟨3, zr, f.p, ze⟩ then 40 else 0
open Classical in
noncomputable def rfE (f : Fr) : Nat := if ¬ onD f.e.count ∨ ¬ onD f.e.bytes ∨ ¬ onD f.e.frames then 40 else if f ≠ ⟨4, zr, zp, f.e⟩ then 40 else 0
/-- why a frame may not be -/
noncomputable def rf (f : Fr) : Nat := if f.kind = 1 ∨ f.kind = 2 then rfR f else if f.kind = 3 then rfP f else if f.kind = 4 then rfE f else 46
theorem rfR_ok {f : Fr} (h : rfR f = 0) : f.r.kind = f.kind ∧ f.r.lsn ≠ 0 ∧ mayKey f.r.key ∧ f.r.val.size ≤ (if f.r.kind = 2 then 0 else 2048) ∧ f = ofR f.r := by
  unfold rfR at h
  by_cases a : f.r.kind ≠ f.kind
  · rw [if_pos a] at h; omega
  · rw [if_neg a] at h
    by_cases b : f.r.lsn = 0
    · rw [if_pos b] at h; omega
    · rw [if_neg b] at h
      by_cases c : ¬ mayKey f.r.key
      · rw [if_pos c] at h; omega
      · rw [if_neg c] at h
        by_cases d : (if f.r.kind = 2 then 0 else 2048) < f.r.val.size
        · rw [if_pos d] at h; omega
        · rw [if_neg d] at h
          by_cases e : f ≠ ofR f.r
          · rw [if_pos e] at h; omega
          · exact ⟨Classical.not_not.1 a, b, Classical.not_not.1 c, Nat.le_of_not_lt d, Classical.not_not.1 e⟩
theorem rfP_ok {f : Fr} (h : rfP f = 0) : (f.p.kind = 1 ∨ f.p.kind = 2) ∧ f.p.lsn ≠ 0 ∧ mayKey f.p.key ∧ onD f.p.at_ ∧ onD f.p.len ∧ f.p.len ≠ 0 ∧ f = ⟨3, zr, f.p, ze⟩ := by
  unfold rfP at h
  split at h
  · omega
  · split at h
    · omega
    · split at h
      · omega
      · split at h
        · omega
        · split at h
          · omega
          · rename_i a b c d e
            refine ⟨by omega, b, Classical.not_not.1 c, ?_, ?_, ?_, Classical.not_not.1 e⟩
            · exact Classical.byContradiction fun q => d (.inl q)
            · exact Classical.byContradiction fun q => d (.inr (.inl q))
            · exact fun q => d (.inr (.inr q))
theorem rfE_ok {f : Fr} (h : rfE f = 0) : onD f.e.count ∧ onD f.e.bytes ∧ onD f.e.frames ∧ f = ⟨4, zr, zp, f.e⟩ := by
  unfold rfE at h
  split at h
  · omega
  · split at h
    · omega
    · rename_i d e
      refine ⟨?_, ?_, ?_, Classical.not_not.1 e⟩
      · exact Classical.byContradiction fun q => d (.inl q)
      · exact Classical.byContradiction fun q => d (.inr (.inl q))
      · exact Classical.byContradiction fun q => d (.inr (.inr q))
/-- the varints of all numbers, one behind the other -/
def vs (l : List Nat) : List Nat := (l.map vrt).flatten
/-- a body, in its parts -/
def bp (f : Fr) : List (List Nat) :=
  if f.kind = 1 then [[1], vs [f.r.lsn, f.r.key.size], bl f.r.key, bl f.r.val]
  else if f.kind = 2 then [[2], vs [f.r.lsn], bl f.r.key]
  else if f.kind = 3 then [[3], vs [f.p.lsn], [f.p.kind.toNat], vs [f.p.at_.toNat, f.p.len.toNat], bl f.p.key]
  else [[4], vs [f.e.count.toNat, f.e.bytes.toNat, f.e.frames.toNat, f.e.sum]]
def bd (f : Fr) : List Nat := (bp f).flatten
abbrev RS := List Nat × Bool
def rNum (m : Nat) (s : RS) : Nat × RS := if (dec s.1).2.2 = 0 ∧ (dec s.1).1 ≤ m then ((dec s.1).1, (s.1.drop (dec s.1).2.1, s.2)) else (0, (s.1, true))
def rKind (s : RS) : Nat × RS := if s.1 = [] then (0, (s.1, true)) else (s.1.getD 0 0, (s.1.drop 1, s.2))
def rText (c : Nat) (s : RS) : ByteArray × RS := if s.1.length < c then (ByteArray.empty, (s.1, true)) else (str (s.1.take c), (s.1.drop c, s.2))
def rRest (s : RS) : ByteArray × RS := rText s.1.length s
def rPtr (s : RS) : Ptr × RS :=
  let a := rNum 18446744073709551615 s
  let k := rKind a.2
  let b := rNum 4194304 k.2
  let c := rNum 4194304 b.2
  let t := rRest c.2
  (⟨a.1, (k.1 : Int), (b.1 : Int), (c.1 : Int), t.1⟩, t.2)
def rEdg (s : RS) : Edg × RS :=
  let a := rNum 4194304 s
  let b := rNum 4194304 a.2
  let c := rNum 4194304 b.2
  let d := rNum 4294967295 c.2
  (⟨(a.1 : Int), (b.1 : Int), (c.1 : Int), d.1⟩, d.2)
def rPut (s : RS) : Rec × RS :=
  let a := rNum 18446744073709551615 s
  let c := rNum 64 a.2
  let t := rText c.1 c.2
  let v := rRest t.2
  (⟨a.1, 1, t.1, v.1⟩, v.2)
def rDel (s : RS) : Rec × RS :=
  let a := rNum 18446744073709551615 s
  let t := rRest a.2
  (⟨a.1, 2, t.1, ByteArray.empty⟩, t.2)
/-- a body taken apart -/
def prs (s : RS) : Fr × RS :=
  let k := rKind s
  if k.1 = 1 then (⟨1, (rPut k.2).1, zp, ze⟩, (rPut k.2).2)
  else if k.1 = 2 then (⟨2, (rDel k.2).1, zp, ze⟩, (rDel k.2).2)
  else if k.1 = 3 then (⟨3, zr, (rPtr k.2).1, ze⟩, (rPtr k.2).2)
  else if k.1 = 4 then (⟨4, zr, zp, (rEdg k.2).1⟩, (rEdg k.2).2)
  else (⟨(k.1 : Int), zr, zp, ze⟩, k.2)
theorem rNum_vrt {n m : Nat} (h : n < 18446744073709551616) (hm : n ≤ m) (r : List Nat) (b : Bool) : rNum m (vrt n ++ r, b) = (n, (r, b)) := by
  unfold rNum
  rw [dec_vrt h, if_pos ⟨rfl, hm⟩]
  simp
theorem rNum_ok {m : Nat} {s : RS} (hb : Byt s.1) (h : (rNum m s).2.2 = false) : s.2 = false ∧ s.1 = vrt (rNum m s).1 ++ (rNum m s).2.1 ∧ (rNum m s).1 ≤ m ∧ (rNum m s).1 < 18446744073709551616 ∧ Byt (rNum m s).2.1 := by
  unfold rNum at h ⊢
  split at h
  · rename_i hc
    rw [if_pos hc]
    obtain ⟨h1, h2, h3, h4, h5, h6⟩ := dec_ok (l := s.1) (n := (dec s.1).1) (k := (dec s.1).2.1) hb (by rw [← hc.1])
    exact ⟨h, by simp only [h1]; rw [List.take_append_drop], hc.2, h5, byt_drop hb _⟩
  · simp at h
theorem rKind_ok {s : RS} (hb : Byt s.1) (h : (rKind s).2.2 = false) : s.2 = false ∧ s.1 = (rKind s).1 :: (rKind s).2.1 ∧ (rKind s).1 < 256 ∧ Byt (rKind s).2.1 := by
  unfold rKind at h ⊢
  split at h
  · simp at h
  · rename_i hc
    rw [if_neg hc]
    obtain ⟨l, b⟩ := s
    cases l with
    | nil => simp at hc
    | cons x t => exact ⟨h, rfl, hb x List.mem_cons_self, fun y hy => hb y (List.mem_cons_of_mem _ hy)⟩
theorem rText_ok {c : Nat} {s : RS} (hb : Byt s.1) (h : (rText c s).2.2 = false) : s.2 = false ∧ s.1 = bl (rText c s).1 ++ (rText c s).2.1 ∧ (rText c s).1.size = c ∧ Byt (rText c s).2.1 := by
  unfold rText at h ⊢
  split at h
  · simp at h
  · rename_i hc
    rw [if_neg hc]
    refine ⟨h, ?_, ?_, byt_drop hb _⟩
    · simp only [bl_str (byt_take hb c)]; rw [List.take_append_drop]
    · simp only [str_size (byt_take hb c)]; rw [List.length_take]; omega
theorem rRest_ok {s : RS} (hb : Byt s.1) (h : (rRest s).2.2 = false) : s.2 = false ∧ s.1 = bl (rRest s).1 ∧ (rRest s).2.1 = [] := by
  obtain ⟨h1, h2, _, _⟩ := rText_ok hb h
  have h3 : (rRest s).2.1 = [] := by unfold rRest rText; rw [if_neg (by omega)]; simp
  refine ⟨h1, ?_, h3⟩
  unfold rRest at h3 ⊢
  rw [h3, List.append_nil] at h2
  exact h2
theorem rText_bl (s : ByteArray) (r : List Nat) (b : Bool) : rText s.size (bl s ++ r, b) = (s, (r, b)) := by
  unfold rText
  rw [if_neg (by rw [List.length_append, bl_len]; omega)]
  simp only
  rw [← bl_len s, List.take_left, List.drop_left, str_bl]
theorem rRest_bl (s : ByteArray) (b : Bool) : rRest (bl s, b) = (s, ([], b)) := by
  have := rText_bl s [] b
  rw [List.append_nil] at this
  unfold rRest
  simp only
  rw [bl_len]; exact this
theorem rKind_cons (x : Nat) (r : List Nat) (b : Bool) : rKind (x :: r, b) = (x, (r, b)) := by unfold rKind; rw [if_neg (by simp)]; rfl
/-- what was written is read -/
theorem prs_bd {f : Fr} (hw : f.Wf) (h : rf f = 0) : prs (bd f, false) = (f, ([], false)) := by
  obtain ⟨w1, w2, w3⟩ := hw
  unfold rf at h
  by_cases c12 : f.kind = 1 ∨ f.kind = 2
  · rw [if_pos c12] at h
    obtain ⟨h1, h2, h3, h4, h5⟩ := rfR_ok h
    obtain ⟨k, ⟨lsn, rk, key, val⟩, p, e⟩ := f
    unfold ofR at h5
    injection h5 with e1 e2 e3 e4
    simp only at *
    subst e3 e4
    rcases c12 with rfl | rfl
    · subst h1
      have hb : bd ⟨1, ⟨lsn, 1, key, val⟩, zp, ze⟩ = 1 :: (vrt lsn ++ (vrt key.size ++ (bl key ++ bl val))) := by
        unfold bd bp; rw [if_pos rfl]
        simp [vs]
      rw [hb]
      unfold prs
      rw [rKind_cons]
      simp only [if_pos]
      unfold rPut
      rw [rNum_vrt w1 (by omega)]
      simp only
      rw [rNum_vrt (by have := h3.2; omega) h3.2]
      simp only
      rw [rText_bl]
      simp only
      rw [rRest_bl]
    · subst h1
      rw [if_pos rfl] at h4
      have hv : val = ByteArray.empty := by
        refine bl_inj (List.length_eq_zero_iff.1 ?_)
        rw [bl_len]; omega
      subst hv
      have hb : bd ⟨2, ⟨lsn, 2, key, ByteArray.empty⟩, zp, ze⟩ = 2 :: (vrt lsn ++ bl key) := by
        unfold bd bp; rw [if_neg (by simp), if_pos rfl]
        simp [vs]
      rw [hb]
      unfold prs
      rw [rKind_cons]
      simp only [if_neg (show ¬ (2 = 1) by omega), if_pos]
      unfold rDel
      rw [rNum_vrt w1 (by omega)]
      simp only
      rw [rRest_bl]
  · rw [if_neg c12] at h
    by_cases c3 : f.kind = 3
    · rw [if_pos c3] at h
      obtain ⟨h1, h2, h3, h4, h5, h6, h7⟩ := rfP_ok h
      obtain ⟨k, r, ⟨lsn, pk, at_, len, key⟩, e⟩ := f
      injection h7 with e1 e2 e3 e4
      simp only at *
      subst e1 e2 e4
      obtain ⟨a, rfl⟩ : ∃ a : Nat, at_ = (a : Int) := ⟨at_.toNat, by have := h4.1; omega⟩
      obtain ⟨n, rfl⟩ : ∃ n : Nat, len = (n : Int) := ⟨len.toNat, by have := h5.1; omega⟩
      obtain ⟨q, rfl⟩ : ∃ q : Nat, pk = (q : Int) := ⟨pk.toNat, by omega⟩
      have hb : bd ⟨3, zr, ⟨lsn, (q : Int), (a : Int), (n : Int), key⟩, ze⟩ = 3 :: (vrt lsn ++ (q :: (vrt a ++ (vrt n ++ bl key)))) := by
        unfold bd bp; rw [if_neg (by simp), if_neg (by simp), if_pos rfl]
        simp [vs]
      rw [hb]
      unfold prs
      rw [rKind_cons]
      simp only [if_neg (show ¬ (3 = 1) by omega), if_neg (show ¬ (3 = 2) by omega), if_pos]
      unfold rPtr
      rw [rNum_vrt w2 (by omega)]
      simp only
      rw [rKind_cons]
      simp only
      rw [rNum_vrt (by have := h4.2; omega) (by have := h4.2; omega)]
      simp only
      rw [rNum_vrt (by have := h5.2; omega) (by have := h5.2; omega)]
      simp only
      rw [rRest_bl]
    · rw [if_neg c3] at h
      by_cases c4 : f.kind = 4
      · rw [if_pos c4] at h
        obtain ⟨h1, h2, h3, h4⟩ := rfE_ok h
        obtain ⟨k, r, p, ⟨ct, by_, fr, sm⟩⟩ := f
        injection h4 with e1 e2 e3 e4
        simp only at *
        subst e1 e2 e3
        obtain ⟨a, rfl⟩ : ∃ a : Nat, ct = (a : Int) := ⟨ct.toNat, by have := h1.1; omega⟩
        obtain ⟨n, rfl⟩ : ∃ n : Nat, by_ = (n : Int) := ⟨by_.toNat, by have := h2.1; omega⟩
        obtain ⟨q, rfl⟩ : ∃ q : Nat, fr = (q : Int) := ⟨fr.toNat, by have := h3.1; omega⟩
        have hb : bd ⟨4, zr, zp, ⟨(a : Int), (n : Int), (q : Int), sm⟩⟩ = 4 :: (vrt a ++ (vrt n ++ (vrt q ++ (vrt sm ++ [])))) := by
          unfold bd bp; rw [if_neg (by simp), if_neg (by simp), if_neg (by simp)]
          simp [vs]
        rw [hb]
        unfold prs
        rw [rKind_cons]
        simp only [if_neg (show ¬ (4 = 1) by omega), if_neg (show ¬ (4 = 2) by omega), if_neg (show ¬ (4 = 3) by omega), if_pos]
        unfold rEdg
        rw [rNum_vrt (by have := h1.2; omega) (by have := h1.2; omega)]
        simp only
        rw [rNum_vrt (by have := h2.2; omega) (by have := h2.2; omega)]
        simp only
        rw [rNum_vrt (by have := h3.2; omega) (by have := h3.2; omega)]
        simp only
        rw [rNum_vrt (by omega) (by omega)]
      · rw [if_neg c4] at h; omega
theorem rNum_byt (m : Nat) {s : RS} (hb : Byt s.1) : Byt (rNum m s).2.1 := by
  unfold rNum; split
  · exact byt_drop hb _
  · exact hb
theorem rKind_byt {s : RS} (hb : Byt s.1) : Byt (rKind s).2.1 := by
  unfold rKind; split
  · exact hb
  · exact byt_drop hb _
theorem rText_byt (c : Nat) {s : RS} (hb : Byt s.1) : Byt (rText c s).2.1 := by
  unfold rText; split
  · exact hb
  · exact byt_drop hb _
theorem rPut_ok {s : RS} (hb : Byt s.1) (h : (rPut s).2.2 = false) : s.2 = false ∧ (rPut s).2.1 = [] ∧ (rPut s).1.kind = 1 ∧ s.1 = vrt (rPut s).1.lsn ++ (vrt (rPut s).1.key.size ++ (bl (rPut s).1.key ++ bl (rPut s).1.val)) ∧ (rPut s).1.lsn < 18446744073709551616 := by
  unfold rPut at h ⊢
  simp only at h ⊢
  have b1 := rNum_byt 18446744073709551615 hb
  have b2 := rNum_byt 64 b1
  have b3 := rText_byt (rNum 64 (rNum 18446744073709551615 s).2).1 b2
  obtain ⟨d1, d2, d3⟩ := rRest_ok b3 h
  obtain ⟨c1, c2, c3, _⟩ := rText_ok b2 d1
  obtain ⟨q1, q2, _⟩ := rNum_ok b1 c1
  obtain ⟨p1, p2, p3, p4, _⟩ := rNum_ok hb q1
  refine ⟨p1, d3, trivial, ?_, p4⟩
  rw [← d2, c3, ← c2, ← q2, ← p2]
theorem rDel_ok {s : RS} (hb : Byt s.1) (h : (rDel s).2.2 = false) : s.2 = false ∧ (rDel s).2.1 = [] ∧ (rDel s).1.kind = 2 ∧ (rDel s).1.val = ByteArray.empty ∧ s.1 = vrt (rDel s).1.lsn ++ bl (rDel s).1.key ∧ (rDel s).1.lsn < 18446744073709551616 := by
  unfold rDel at h ⊢
  simp only at h ⊢
  have b1 := rNum_byt 18446744073709551615 hb
  obtain ⟨d1, d2, d3⟩ := rRest_ok b1 h
  obtain ⟨p1, p2, p3, p4, _⟩ := rNum_ok hb d1
  refine ⟨p1, d3, trivial, trivial, ?_, p4⟩
  rw [← d2, ← p2]
theorem rPtr_ok {s : RS} (hb : Byt s.1) (h : (rPtr s).2.2 = false) : s.2 = false ∧ (rPtr s).2.1 = [] ∧ s.1 = vrt (rPtr s).1.lsn ++ ((rPtr s).1.kind.toNat :: (vrt (rPtr s).1.at_.toNat ++ (vrt (rPtr s).1.len.toNat ++ bl (rPtr s).1.key))) ∧ (rPtr s).1.lsn < 18446744073709551616 := by
  unfold rPtr at h ⊢
  simp only [Int.toNat_natCast] at h ⊢
  have b1 := rNum_byt 18446744073709551615 hb
  have b2 := rKind_byt b1
  have b3 := rNum_byt 4194304 b2
  have b4 := rNum_byt 4194304 b3
  obtain ⟨d1, d2, d3⟩ := rRest_ok b4 h
  obtain ⟨c1, c2, _⟩ := rNum_ok b3 d1
  obtain ⟨e1, e2, _⟩ := rNum_ok b2 c1
  obtain ⟨q1, q2, _⟩ := rKind_ok b1 e1
  obtain ⟨p1, p2, p3, p4, _⟩ := rNum_ok hb q1
  refine ⟨p1, d3, ?_, p4⟩
  rw [← d2, ← c2, ← e2, ← q2, ← p2]
theorem rEdg_ok {s : RS} (hb : Byt s.1) (h : (rEdg s).2.2 = false) : s.2 = false ∧ s.1 = vrt (rEdg s).1.count.toNat ++ (vrt (rEdg s).1.bytes.toNat ++ (vrt (rEdg s).1.frames.toNat ++ (vrt (rEdg s).1.sum ++ (rEdg s).2.1))) ∧ (rEdg s).1.sum < 4294967296 := by
  unfold rEdg at h ⊢
  simp only [Int.toNat_natCast] at h ⊢
  have b1 := rNum_byt 4194304 hb
  have b2 := rNum_byt 4194304 b1
  have b3 := rNum_byt 4194304 b2
  obtain ⟨d1, d2, d3, _⟩ := rNum_ok b3 h
  obtain ⟨c1, c2, _⟩ := rNum_ok b2 d1
  obtain ⟨q1, q2, _⟩ := rNum_ok b1 c1
  obtain ⟨p1, p2, p3, p4, _⟩ := rNum_ok hb q1
  refine ⟨p1, ?_, by omega⟩
  rw [← d2, ← c2, ← q2, ← p2]
theorem prs_1 {s : RS} (h : (rKind s).1 = 1) : prs s = (⟨1, (rPut (rKind s).2).1, zp, ze⟩, (rPut (rKind s).2).2) := by unfold prs; simp only; rw [if_pos h]
theorem prs_2 {s : RS} (h : (rKind s).1 = 2) : prs s = (⟨2, (rDel (rKind s).2).1, zp, ze⟩, (rDel (rKind s).2).2) := by unfold prs; simp only; rw [if_neg (by omega), if_pos h]
theorem prs_3 {s : RS} (h : (rKind s).1 = 3) : prs s = (⟨3, zr, (rPtr (rKind s).2).1, ze⟩, (rPtr (rKind s).2).2) := by unfold prs; simp only; rw [if_neg (by omega), if_neg (by omega), if_pos h]
theorem prs_4 {s : RS} (h : (rKind s).1 = 4) : prs s = (⟨4, zr, zp, (rEdg (rKind s).2).1⟩, (rEdg (rKind s).2).2) := by unfold prs; simp only; rw [if_neg (by omega), if_neg (by omega), if_neg (by omega), if_pos h]
theorem prs_5 {s : RS} (h1 : (rKind s).1 ≠ 1) (h2 : (rKind s).1 ≠ 2) (h3 : (rKind s).1 ≠ 3) (h4 : (rKind s).1 ≠ 4) : prs s = (⟨((rKind s).1 : Int), zr, zp, ze⟩, (rKind s).2) := by unfold prs; simp only; rw [if_neg h1, if_neg h2, if_neg h3, if_neg h4]
/-- what is read is what would be written -/
theorem bd_prs {l : List Nat} (hb : Byt l) (h : rf (prs (l, false)).1 = 0) (hl : (prs (l, false)).2.1 = []) (hr : (prs (l, false)).2.2 = false) : bd (prs (l, false)).1 = l ∧ (prs (l, false)).1.Wf := by
  have bk := rKind_byt (s := (l, false)) hb
  by_cases c1 : (rKind (l, false)).1 = 1
  · rw [prs_1 c1] at hl hr ⊢
    simp only at hl hr ⊢
    obtain ⟨p1, p2, p3, p4, p5⟩ := rPut_ok bk hr
    obtain ⟨_, q2, _⟩ := rKind_ok (s := (l, false)) hb p1
    simp only at q2
    refine ⟨?_, p5, (by show 0 < 18446744073709551616; omega), (by show 0 < 4294967296; omega)⟩
    refine Eq.trans ?_ q2.symm
    rw [p4, c1]
    unfold bd bp; rw [if_pos rfl]
    simp [vs]
  · by_cases c2 : (rKind (l, false)).1 = 2
    · rw [prs_2 c2] at hl hr ⊢
      simp only at hl hr ⊢
      obtain ⟨p1, p2, p3, _, p4, p5⟩ := rDel_ok bk hr
      obtain ⟨_, q2, _⟩ := rKind_ok (s := (l, false)) hb p1
      simp only at q2
      refine ⟨?_, p5, (by show 0 < 18446744073709551616; omega), (by show 0 < 4294967296; omega)⟩
      refine Eq.trans ?_ q2.symm
      rw [p4, c2]
      unfold bd bp; rw [if_neg (by simp), if_pos rfl]
      simp [vs]
    · by_cases c3 : (rKind (l, false)).1 = 3
      · rw [prs_3 c3] at hl hr ⊢
        simp only at hl hr ⊢
        obtain ⟨p1, p2, p4, p5⟩ := rPtr_ok bk hr
        obtain ⟨_, q2, _⟩ := rKind_ok (s := (l, false)) hb p1
        simp only at q2
        refine ⟨?_, (by show 0 < 18446744073709551616; omega), p5, (by show 0 < 4294967296; omega)⟩
        refine Eq.trans ?_ q2.symm
        rw [p4, c3]
        unfold bd bp; rw [if_neg (by simp), if_neg (by simp), if_pos rfl]
        simp [vs]
      · by_cases c4 : (rKind (l, false)).1 = 4
        · rw [prs_4 c4] at hl hr ⊢
          simp only at hl hr ⊢
          obtain ⟨p1, p4, p5⟩ := rEdg_ok bk hr
          obtain ⟨_, q2, _⟩ := rKind_ok (s := (l, false)) hb p1
          simp only at q2
          refine ⟨?_, (by show 0 < 18446744073709551616; omega), (by show 0 < 18446744073709551616; omega), p5⟩
          refine Eq.trans ?_ q2.symm
          rw [p4, c4, hl]
          unfold bd bp; rw [if_neg (by simp), if_neg (by simp), if_neg (by simp)]
          simp [vs]
        · rw [prs_5 c1 c2 c3 c4] at h
          unfold rf at h
          simp only at h
          rw [if_neg (by omega), if_neg (by omega), if_neg (by omega)] at h
          omega
/-- a body that may be is short -/
theorem bd_len {f : Fr} (hw : f.Wf) (h : rf f = 0) : (bd f).length ≤ 2200 ∧ 1 ≤ (bd f).length := by
  obtain ⟨w1, w2, w3⟩ := hw
  unfold rf at h
  unfold bd bp
  by_cases c12 : f.kind = 1 ∨ f.kind = 2
  · rw [if_pos c12] at h
    obtain ⟨h1, h2, h3, h4, h5⟩ := rfR_ok h
    have v1 := vrt_ten w1
    have v2 := vrt_ten (n := f.r.key.size) (by have := h3.2; omega)
    have h32 := h3.2
    by_cases c1 : f.kind = 1
    · rw [if_pos c1]
      rw [if_neg (by omega)] at h4
      simp [vs, bl_len]; omega
    · rw [if_neg c1, if_pos (by omega)]
      simp [vs, bl_len]; omega
  · rw [if_neg c12] at h
    rw [if_neg (by omega), if_neg (by omega)]
    by_cases c3 : f.kind = 3
    · rw [if_pos c3] at h ⊢
      obtain ⟨h1, h2, h3, h4, h5, h6, h7⟩ := rfP_ok h
      have v1 := vrt_ten w2
      have v2 := vrt_ten (n := f.p.at_.toNat) (by have := h4.2; omega)
      have v3 := vrt_ten (n := f.p.len.toNat) (by have := h5.2; omega)
      have h32 := h3.2
      simp [vs, bl_len]; omega
    · rw [if_neg c3] at h ⊢
      by_cases c4 : f.kind = 4
      · rw [if_pos c4] at h
        obtain ⟨h1, h2, h3, h4⟩ := rfE_ok h
        have v1 := vrt_ten (n := f.e.count.toNat) (by have := h1.2; omega)
        have v2 := vrt_ten (n := f.e.bytes.toNat) (by have := h2.2; omega)
        have v3 := vrt_ten (n := f.e.frames.toNat) (by have := h3.2; omega)
        have v4 := vrt_ten (n := f.e.sum) (by omega)
        simp [vs]; omega
      · rw [if_neg c4] at h; omega
theorem vs_byt (l : List Nat) : Byt (vs l) := by
  intro x hx
  unfold vs at hx
  obtain ⟨a, ha, hxa⟩ := List.mem_flatten.1 hx
  obtain ⟨n, _, rfl⟩ := List.mem_map.1 ha
  exact vrt_byt n x hxa
theorem bd_byt {f : Fr} (h : rf f = 0) : Byt (bd f) := by
  have one : ∀ k, k < 256 → Byt [k] := by intro k hk x hx; simp at hx; omega
  have key : ∀ p ∈ bp f, Byt p := by
    unfold bp
    unfold rf at h
    by_cases c1 : f.kind = 1
    · rw [if_pos c1]
      intro p hp
      simp only [List.mem_cons, List.not_mem_nil, or_false] at hp
      rcases hp with rfl | rfl | rfl | rfl
      · exact one 1 (by omega)
      · exact vs_byt _
      · exact bl_byt _
      · exact bl_byt _
    · rw [if_neg c1]
      by_cases c2 : f.kind = 2
      · rw [if_pos c2]
        intro p hp
        simp only [List.mem_cons, List.not_mem_nil, or_false] at hp
        rcases hp with rfl | rfl | rfl
        · exact one 2 (by omega)
        · exact vs_byt _
        · exact bl_byt _
      · rw [if_neg c2]
        rw [if_neg (by omega)] at h
        by_cases c3 : f.kind = 3
        · rw [if_pos c3]
          rw [if_pos c3] at h
          have := (rfP_ok h).1
          intro p hp
          simp only [List.mem_cons, List.not_mem_nil, or_false] at hp
          rcases hp with rfl | rfl | rfl | rfl | rfl
          · exact one 3 (by omega)
          · exact vs_byt _
          · exact one _ (by omega)
          · exact vs_byt _
          · exact bl_byt _
        · rw [if_neg c3]
          intro p hp
          simp only [List.mem_cons, List.not_mem_nil, or_false] at hp
          rcases hp with rfl | rfl
          · exact one 4 (by omega)
          · exact vs_byt _
  intro x hx
  obtain ⟨p, hp, hxp⟩ := List.mem_flatten.1 hx
  exact key p hp x hxp
end Vt
end Go.Proofs.Ytnjhbidialngmaa
