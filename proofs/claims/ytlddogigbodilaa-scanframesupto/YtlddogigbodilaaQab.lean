/-
  SMALL HELPS that the walks share: rows of the call's own that stay, literal slices, a byte put behind.
  PLAIN MATHEMATICS OF ESCAPED BYTES: 'wr' (the escaped bytes of plain ones), 'fs' (the plain byte at the front), 'told' (what is told, with places), 'bad' (the first that cannot stand). No program.
  THE WALKS OF escape.Size, escape.first.
  THE WALKS OF escape.Size, escape.Wrap, escape.Open: what 'wr', 'plain' and 'badB' say, in rows of the call's own.
-/
import Derived.Test.YtlddogigbodilaaQaa
import Derived.Deep.QuietTactic
import Derived.BigQuiet
import Derived.Deep.RegionWith
import Derived.OwnWalk
import Derived.Laws.BytesString
namespace Go.Proofs.Ytlddogigbodilaa
open Go.RowKit
namespace Vt
theorem drewN2 (w : World) (n m : Nat) : ∃ k, (w.drewN n).drewN m = w.drewN k := ⟨n + m, World.drewN_drewN w n m⟩
theorem ext_getD {la lb : List Nat} (hl : la.length = lb.length) (h : ∀ k, k < la.length → la.getD k 0 = lb.getD k 0) : la = lb := by
  refine List.ext_getElem hl fun i h1 h2 => ?_
  have := h i h1
  rwa [List.getD_eq_getElem?_getD, List.getD_eq_getElem?_getD, List.getElem?_eq_getElem h1, List.getElem?_eq_getElem h2] at this
theorem made8 (n : Nat) : (madeCells (Value.int .u8 0).cells (n * 1)).toList = bs (List.replicate n 0) := by
  refine List.ext_getElem (by simp [madeCells, bs]) fun i h1 h2 => ?_
  simp [madeCells, bs, Value.cells, Nat.mod_one]
theorem lit_isK (k : IntKind) (M : Nat) (w : World) (xs : Array Value) (t : TypeId) (l : List Nat) (n : Nat) (hn : n = l.length) (hx : xs = (l.map fun x => Value.int k ((x : Nat) : Int)).toArray) (hb : ∀ x ∈ l, x < M) (hm : l.length ≤ maxLen) : IsK k M (w.alloc (.cells xs t)) (.slice (some ⟨w.heap.size, 0, none⟩) n n) l := by
  subst hn
  refine ⟨hb, hm, .inr ⟨w.heap.size, 0, l.length, rfl, Nat.le_refl _, hm, by simp, fun j hj => ?_⟩⟩
  subst hx
  rw [Nat.zero_add, World.cell?_alloc_new, List.getD_eq_getElem?_getD, List.getElem?_eq_getElem hj]
  simp [hj]
theorem lit_isK_at (k : IntKind) (M : Nat) (w : World) (xs : Array Value) (t : TypeId) (l : List Nat) (n g : Nat) (hg : w.heap.size = g) (hn : n = l.length) (hx : xs = (l.map fun x => Value.int k ((x : Nat) : Int)).toArray) (hb : ∀ x ∈ l, x < M) (hm : l.length ≤ maxLen) : IsK k M (w.alloc (.cells xs t)) (.slice (some ⟨g, 0, none⟩) n n) l := by
  subst hg
  exact lit_isK k M w xs t l n hn hx hb hm
theorem own_below {w w' : World} {base g m n cap k : Nat} {e : TypeId} {xs : List Value} (h : w.ownsRow base e 1 (.slice (some ⟨g, 0, none⟩) m cap) n xs) (hg : g < k) (hb : Below k w w') : w'.ownsRow base e 1 (.slice (some ⟨g, 0, none⟩) m cap) n xs := by
  obtain ⟨h0, ⟨h, _⟩ | ⟨g', cap', cur, h, hbs, hh, hr⟩⟩ := h
  · cases h
  · refine ⟨h0, .inr ⟨g', cap', cur, h, hbs, ?_, hr⟩⟩
    injection h with h1 h2 h3
    injection h1 with h1
    injection h1 with h1
    subst h1
    rw [hb.block g hg]; exact hh
theorem JB.below {w w' : World} {base g n cap k : Nat} {l : List Nat} (h : JB w base (.slice (some ⟨g, 0, none⟩) n cap) l) (hg : g < k) (hb : Below k w w') : JB w' base (.slice (some ⟨g, 0, none⟩) n cap) l := ⟨h.1, own_below h.2 hg hb⟩
theorem IsK.cap {k : IntKind} {M : Nat} {w : World} {a : Option Addr} {n c : Nat} {l : List Nat} (h : IsK k M w (.slice a n c) l) : l.length ≤ c := by
  obtain ⟨_, _, ⟨rfl, a', c', e⟩ | ⟨b, off, c', e, h1, _⟩⟩ := h
  · simp
  · injection e with e1 e2 e3
    omega
theorem bytes_u8 : Try.prog.bytesOf 5 = 1 := by kernel_rfl
theorem jb_snoc {w : World} {base : Nat} {a : Option Addr} {n cap y : Nat} {l : List Nat} {z : Int} (hz : z = (y : Int)) (hy : y < 256) (hb : Byt l) (hn : n + 1 = l.length + 1) (h : w.ownsRow base 5 1 (.slice a (n + 1) cap) (n + 1) (bs l ++ [.int .u8 z])) : JB w base (.slice a (n + 1) cap) (l ++ [y]) := by
  subst hz
  refine ⟨byt_app hb (by intro x hx; simp at hx; omega), ?_⟩
  rw [List.length_append, List.length_singleton, ← hn, ← bs_app]
  exact h
end Vt
end Go.Proofs.Ytlddogigbodilaa
namespace Go.Proofs.Ytlddogigbodilaa
namespace Vt
def e1 (c : Nat) : List Nat := if c = 167 then [166, 1] else if c = 166 then [166, 0] else [c]
def wr : List Nat → List Nat
  | [] => []
  | c :: r => e1 c ++ wr r
theorem e1_lead : e1 167 = [166, 1] := rfl
theorem e1_esc : e1 166 = [166, 0] := rfl
theorem e1_any {c : Nat} (h : c ≠ 167) (h2 : c ≠ 166) : e1 c = [c] := by unfold e1; rw [if_neg h, if_neg h2]
theorem wr_append (a b : List Nat) : wr (a ++ b) = wr a ++ wr b := by
  induction a with
  | nil => rfl
  | cons c r ih => rw [List.cons_append, wr, wr, ih, List.append_assoc]
theorem wr_one (c : Nat) : wr [c] = e1 c := by simp [wr]
theorem wr_succ {l : List Nat} {k : Nat} (h : k < l.length) : wr (l.take (k + 1)) = wr (l.take k) ++ e1 (l.getD k 0) := by
  rw [take_succ_getD h, wr_append, wr_one]
theorem e1_len (c : Nat) : 1 ≤ (e1 c).length ∧ (e1 c).length ≤ 2 := by
  unfold e1
  split
  · simp
  · split <;> simp
theorem wr_len (l : List Nat) : l.length ≤ (wr l).length ∧ (wr l).length ≤ 2 * l.length := by
  induction l with
  | nil => simp [wr]
  | cons c r ih =>
    have := e1_len c
    rw [wr, List.length_append, List.length_cons]; omega
theorem e1_byt {c : Nat} (h : c < 256) : Byt (e1 c) := by
  unfold e1
  split
  · intro x hx; simp at hx; omega
  · split
    · intro x hx; simp at hx; omega
    · intro x hx; simp at hx; omega
theorem wr_byt {l : List Nat} (h : Byt l) : Byt (wr l) := by
  induction l with
  | nil => exact byt_nil
  | cons c r ih => rw [wr]; exact byt_app (e1_byt (h c List.mem_cons_self)) (ih fun x hx => h x (List.mem_cons_of_mem _ hx))
theorem e1_no (c : Nat) : ∀ x ∈ e1 c, x ≠ 167 := by
  unfold e1
  split
  · intro x hx; simp at hx; omega
  · split
    · intro x hx; simp at hx; omega
    · intro x hx; simp at hx; omega
theorem wr_no (l : List Nat) : ∀ x ∈ wr l, x ≠ 167 := by
  induction l with
  | nil => intro x hx; simp [wr] at hx
  | cons c r ih =>
    intro x hx
    rw [wr] at hx
    rcases List.mem_append.1 hx with hx | hx
    · exact e1_no c x hx
    · exact ih x hx
theorem wr_no_at {l : List Nat} {k : Nat} (h : k < (wr l).length) : (wr l).getD k 0 ≠ 167 := by
  apply wr_no l
  rw [List.getD_eq_getElem?_getD, List.getElem?_eq_getElem h]
  exact List.getElem_mem h
/-- the plain byte at the front, how many bytes it takes, what is wrong -/
def fs (l : List Nat) : Nat × Nat × Nat :=
  if l.getD 0 0 = 167 then (0, 0, 31) else if l.getD 0 0 ≠ 166 then (l.getD 0 0, 1, 0) else if l.length = 1 then (0, 0, 32)
  else if l.getD 1 0 = 0 then (166, 2, 0) else if l.getD 1 0 = 1 then (167, 2, 0) else (0, 0, 32)
/-- what is told: the places from at_ on -/
def told : Nat → Nat → List Nat → List (Nat × Nat)
  | 0, _, _ => []
  | f + 1, at_, l => if l = [] then [] else if (fs l).2.2 = 0 then (at_, (fs l).1) :: told f (at_ + (fs l).2.1) (l.drop (fs l).2.1) else []
/-- what is wrong, and where -/
def bad : Nat → Nat → List Nat → Nat × Nat
  | 0, _, _ => (0, 0)
  | f + 1, at_, l => if l = [] then (0, 0) else if (fs l).2.2 = 0 then bad f (at_ + (fs l).2.1) (l.drop (fs l).2.1) else ((fs l).2.2, at_)
theorem fs_front (c : Nat) (r : List Nat) : fs (e1 c ++ r) = (c, (e1 c).length, 0) := by
  by_cases h : c = 167
  · subst h; simp [e1, fs]
  · by_cases h2 : c = 166
    · subst h2; simp [e1, fs]
    · rw [e1_any h h2]; simp [fs, h, h2]
theorem fs_ok {l : List Nat} (hne : l ≠ []) (h : (fs l).2.2 = 0) : l = e1 (fs l).1 ++ l.drop (fs l).2.1 ∧ (fs l).2.1 = (e1 (fs l).1).length := by
  match l, hne with
  | [c], _ =>
    unfold fs at *
    by_cases h1 : c = 167
    · simp [h1] at h
    · by_cases h2 : c = 166
      · simp [h2] at h
      · simp [h1, h2, e1_any h1 h2]
  | c :: d :: r, _ =>
    unfold fs at *
    by_cases h1 : c = 167
    · simp [h1] at h
    · by_cases h2 : c = 166
      · by_cases h3 : d = 0
        · simp [h2, h3, e1]
        · by_cases h4 : d = 1
          · simp [h2, h4, e1]
          · simp [h2, h3, h4] at h
      · simp [h1, h2, e1_any h1 h2]
theorem fs_len {l : List Nat} (hne : l ≠ []) (h : (fs l).2.2 = 0) : 1 ≤ (fs l).2.1 ∧ (fs l).2.1 ≤ l.length ∧ (fs l).2.1 ≤ 2 := by
  have h1 := fs_ok hne h
  have h2 := e1_len (fs l).1
  have h3 := congrArg List.length h1.1
  rw [List.length_append] at h3
  omega
theorem fs_byt {l : List Nat} (hb : Byt l) : (fs l).1 < 256 := by
  have := getD_lt hb 0
  unfold fs
  repeat' split
  all_goals (simp only; omega)
theorem fs_err (l : List Nat) : (fs l).2.2 = 0 ∨ (fs l).2.2 = 31 ∧ l.getD 0 0 = 167 ∨ (fs l).2.2 = 32 ∧ l.getD 0 0 = 166 := by
  unfold fs
  by_cases h1 : l.getD 0 0 = 167
  · rw [if_pos h1]; exact .inr (.inl ⟨rfl, h1⟩)
  · rw [if_neg h1]
    by_cases h2 : l.getD 0 0 = 166
    · rw [if_neg (by simpa using h2)]
      repeat' split
      all_goals first | exact .inl rfl | exact .inr (.inr ⟨rfl, h2⟩)
    · rw [if_pos h2]; simp
theorem fs_bad {l : List Nat} (h : (fs l).2.2 ≠ 0) : (fs l).1 = 0 ∧ (fs l).2.1 = 0 := by
  unfold fs at *
  repeat' split at h
  all_goals first | (exact absurd rfl h) | skip
  all_goals simp_all
def toldB (at_ : Nat) (l : List Nat) : List (Nat × Nat) := told l.length at_ l
def badB (at_ : Nat) (l : List Nat) : Nat × Nat := bad l.length at_ l
theorem told_fuel (f : Nat) : ∀ (g at_ : Nat) (l : List Nat), l.length ≤ f → l.length ≤ g → told f at_ l = told g at_ l ∧ bad f at_ l = bad g at_ l := by
  induction f with
  | zero =>
    intro g at_ l h1 h2
    obtain rfl : l = [] := List.length_eq_zero_iff.1 (by omega)
    cases g with
    | zero => exact ⟨rfl, rfl⟩
    | succ g => simp [told, bad]
  | succ f ih =>
    intro g at_ l h1 h2
    cases g with
    | zero =>
      obtain rfl : l = [] := List.length_eq_zero_iff.1 (by omega)
      simp [told, bad]
    | succ g =>
      unfold told bad
      by_cases h : l = []
      · simp [h]
      · rw [if_neg h, if_neg h, if_neg h, if_neg h]
        by_cases he : (fs l).2.2 = 0
        · have := fs_len h he
          have hh := ih g (at_ + (fs l).2.1) (l.drop (fs l).2.1) (by rw [List.length_drop]; omega) (by rw [List.length_drop]; omega)
          rw [if_pos he, if_pos he, if_pos he, if_pos he, hh.1, hh.2]; exact ⟨rfl, rfl⟩
        · rw [if_neg he, if_neg he, if_neg he, if_neg he]; exact ⟨rfl, rfl⟩
theorem toldB_nil (at_ : Nat) : toldB at_ [] = [] := rfl
theorem badB_nil (at_ : Nat) : badB at_ [] = (0, 0) := rfl
theorem toldB_ok {at_ : Nat} {l : List Nat} (h : l ≠ []) (he : (fs l).2.2 = 0) : toldB at_ l = (at_, (fs l).1) :: toldB (at_ + (fs l).2.1) (l.drop (fs l).2.1) := by
  have hd := fs_len h he
  obtain ⟨m, hm⟩ : ∃ m, l.length = m + 1 := ⟨l.length - 1, by omega⟩
  unfold toldB
  rw [hm, told, if_neg h, if_pos he, (told_fuel m _ _ _ (by rw [List.length_drop]; omega) (Nat.le_refl _)).1]
theorem badB_ok {at_ : Nat} {l : List Nat} (h : l ≠ []) (he : (fs l).2.2 = 0) : badB at_ l = badB (at_ + (fs l).2.1) (l.drop (fs l).2.1) := by
  have hd := fs_len h he
  obtain ⟨m, hm⟩ : ∃ m, l.length = m + 1 := ⟨l.length - 1, by omega⟩
  unfold badB
  rw [hm, bad, if_neg h, if_pos he, (told_fuel m _ _ _ (by rw [List.length_drop]; omega) (Nat.le_refl _)).2]
theorem toldB_err {at_ : Nat} {l : List Nat} (he : (fs l).2.2 ≠ 0) : toldB at_ l = [] := by
  unfold toldB
  cases l with
  | nil => rfl
  | cons x r => rw [List.length_cons, told, if_neg (by simp), if_neg he]
theorem badB_err {at_ : Nat} {l : List Nat} (h : l ≠ []) (he : (fs l).2.2 ≠ 0) : badB at_ l = ((fs l).2.2, at_) := by
  unfold badB
  cases l with
  | nil => exact absurd rfl h
  | cons x r => rw [List.length_cons, bad, if_neg (by simp), if_neg he]
/-- plain bytes with the places of what they are written as -/
def pl : Nat → List Nat → List (Nat × Nat)
  | _, [] => []
  | p, c :: r => (p, c) :: pl (p + (e1 c).length) r
theorem e1_ne (c : Nat) (r : List Nat) : e1 c ++ r ≠ [] := by
  have := e1_len c
  intro e
  have := congrArg List.length e
  rw [List.length_append, List.length_nil] at this
  omega
theorem both_wr (p r : List Nat) : ∀ at_, toldB at_ (wr p ++ r) = pl at_ p ++ toldB (at_ + (wr p).length) r ∧ badB at_ (wr p ++ r) = badB (at_ + (wr p).length) r := by
  induction p with
  | nil => intro at_; exact ⟨rfl, rfl⟩
  | cons c q ih =>
    intro at_
    have hf := fs_front c (wr q ++ r)
    have hne := e1_ne c (wr q ++ r)
    rw [wr, List.append_assoc, toldB_ok hne (by rw [hf]), badB_ok hne (by rw [hf]), hf]
    simp only
    rw [List.drop_left' rfl, (ih _).1, (ih _).2, pl, List.length_append, Nat.add_assoc]
    exact ⟨rfl, rfl⟩
theorem toldB_wr (p : List Nat) (at_ : Nat) : toldB at_ (wr p) = pl at_ p := by
  have := (both_wr p [] at_).1
  rwa [List.append_nil, toldB_nil, List.append_nil] at this
theorem badB_wr (p : List Nat) (at_ : Nat) : badB at_ (wr p) = (0, 0) := by
  have := (both_wr p [] at_).2
  rwa [List.append_nil, badB_nil] at this
theorem pl_len (at_ : Nat) (p : List Nat) : (pl at_ p).length = p.length := by
  induction p generalizing at_ with
  | nil => rfl
  | cons c r ih => simp [pl, ih]
theorem pl_snd (at_ : Nat) (p : List Nat) : (pl at_ p).map Prod.snd = p := by
  induction p generalizing at_ with
  | nil => rfl
  | cons c r ih => simp [pl, ih]
theorem pl_at (p : Nat) (l : List Nat) (k : Nat) (hk : k < l.length) : (pl p l)[k]? = some (p + (wr (l.take k)).length, l.getD k 0) := by
  induction l generalizing p k with
  | nil => simp at hk
  | cons x r ih =>
    cases k with
    | zero => simp [pl, wr]
    | succ k =>
      rw [pl, List.getElem?_cons_succ, ih _ k (by simpa using hk), List.take_succ_cons, wr, List.length_append, List.getD_cons_succ, Nat.add_assoc]
/-- whatever bytes: escaped ones, and behind them nothing, or what cannot stand -/
theorem parts (n : Nat) : ∀ l : List Nat, l.length ≤ n → ∃ p r, l = wr p ++ r ∧ (r = [] ∨ r ≠ [] ∧ (fs r).2.2 ≠ 0) := by
  induction n with
  | zero => intro l h; exact ⟨[], [], List.length_eq_zero_iff.1 (by omega), .inl rfl⟩
  | succ n ih =>
    intro l h
    by_cases h0 : l = []
    · exact ⟨[], [], h0, .inl rfl⟩
    · by_cases he : (fs l).2.2 = 0
      · have h1 := fs_len h0 he
        have h2 := fs_ok h0 he
        obtain ⟨p, r, e, hr⟩ := ih (l.drop (fs l).2.1) (by rw [List.length_drop]; omega)
        refine ⟨(fs l).1 :: p, r, ?_, hr⟩
        rw [wr, List.append_assoc, ← e]; exact h2.1
      · exact ⟨[], l, rfl, .inr ⟨h0, he⟩⟩
theorem part (l : List Nat) : ∃ p r, l = wr p ++ r ∧ (r = [] ∨ r ≠ [] ∧ (fs r).2.2 ≠ 0) := parts _ l (Nat.le_refl _)
theorem part_byt {p r l : List Nat} (h : l = wr p ++ r) (hb : Byt l) : Byt p := by
  induction p generalizing l with
  | nil => exact byt_nil
  | cons c q ih =>
    intro x hx
    rw [wr, List.append_assoc] at h
    rcases List.mem_cons.1 hx with rfl | hx
    · have h1 := e1_len x
      by_cases h2 : x = 167
      · omega
      · by_cases h3 : x = 166
        · omega
        · rw [e1_any h2 h3] at h; exact hb x (by rw [h]; simp)
    · exact ih (l := wr q ++ r) rfl (fun y hy => hb y (by rw [h]; exact List.mem_append_right _ hy)) x hx
/-- .. what is told of such bytes -/
theorem part_fine {p : List Nat} : toldB 0 (wr p ++ []) = pl 0 p ∧ badB 0 (wr p ++ []) = (0, 0) := by
  rw [List.append_nil]; exact ⟨toldB_wr p 0, badB_wr p 0⟩
theorem part_bad {p r : List Nat} (h : r ≠ []) (he : (fs r).2.2 ≠ 0) : toldB 0 (wr p ++ r) = pl 0 p ∧ badB 0 (wr p ++ r) = ((fs r).2.2, (wr p).length) := by
  have := both_wr p r 0
  rw [toldB_err he, badB_err h he, List.append_nil, Nat.zero_add] at this
  exact this
theorem toldB_len (at_ : Nat) (l : List Nat) : (toldB at_ l).length ≤ l.length := by
  have key : ∀ f at_ l, (told f at_ l).length ≤ f := by
    intro f
    induction f with
    | zero => intro at_ l; simp [told]
    | succ f ih =>
      intro at_ l
      unfold told
      split
      · simp
      · split
        · rw [List.length_cons]; have := ih (at_ + (fs l).2.1) (l.drop (fs l).2.1); omega
        · simp
  exact key _ _ _
/-- the plain bytes of escaped ones -/
def plain (l : List Nat) : List Nat := (toldB 0 l).map Prod.snd
theorem plain_len (l : List Nat) : (plain l).length ≤ l.length := by
  unfold plain; rw [List.length_map]; exact toldB_len 0 l
theorem plain_byt {l : List Nat} (hb : Byt l) : Byt (plain l) := by
  obtain ⟨p, r, e, h⟩ := part l
  have hp := part_byt e hb
  subst e
  unfold plain
  rcases h with rfl | ⟨h1, h2⟩
  · rw [part_fine.1, pl_snd]; exact hp
  · rw [(part_bad h1 h2).1, pl_snd]; exact hp
theorem plain_wr (p : List Nat) : plain (wr p) = p := by unfold plain; rw [toldB_wr, pl_snd]
/-- what is opened comes, wrapped, to what was opened -/
theorem only {l : List Nat} (h : (badB 0 l).1 = 0) : wr (plain l) = l := by
  obtain ⟨p, r, e, hr⟩ := part l
  subst e
  rcases hr with rfl | ⟨h1, h2⟩
  · rw [List.append_nil, plain_wr]
  · rw [(part_bad h1 h2).2] at h; exact absurd h h2
theorem badB_place {l : List Nat} (h : (badB 0 l).1 ≠ 0) : (badB 0 l).2 < l.length ∧ ((badB 0 l).1 = 31 ∧ l.getD (badB 0 l).2 0 = 167 ∨ (badB 0 l).1 = 32 ∧ l.getD (badB 0 l).2 0 = 166) := by
  obtain ⟨p, r, e, hr⟩ := part l
  subst e
  rcases hr with rfl | ⟨h1, h2⟩
  · rw [part_fine.2] at h; exact absurd rfl h
  · rw [(part_bad h1 h2).2]
    simp only
    have hpos : 0 < r.length := List.length_pos_iff.2 h1
    refine ⟨by rw [List.length_append]; omega, ?_⟩
    have hg : (wr p ++ r).getD (wr p).length 0 = r.getD 0 0 := by
      rw [List.getD_eq_getElem?_getD, List.getElem?_append_right (Nat.le_refl _), Nat.sub_self, List.getD_eq_getElem?_getD]
    rw [hg]
    rcases fs_err r with h3 | h3 | h3
    · exact absurd h3 h2
    · exact .inl h3
    · exact .inr h3
theorem badB_zero {l : List Nat} (h : (badB 0 l).1 = 0) : badB 0 l = (0, 0) := by
  obtain ⟨p, r, e, hr⟩ := part l
  subst e
  rcases hr with rfl | ⟨h1, h2⟩
  · exact part_fine.2
  · rw [(part_bad h1 h2).2] at h; exact absurd h h2
end Vt
end Go.Proofs.Ytlddogigbodilaa
namespace Go.Proofs.Ytlddogigbodilaa
open Go.RowKit
namespace Vt
def eans (d : Nat × Nat × Nat) : Value := .tuple #[.int .u8 (d.1 : Int), .int .i64 (d.2.1 : Int), .int .i64 (d.2.2 : Int)]
theorem fs_1 {l : List Nat} (h : l.getD 0 0 = 167) : fs l = (0, 0, 31) := by unfold fs; rw [if_pos h]
theorem fs_2 {l : List Nat} (h : l.getD 0 0 ≠ 167) (h2 : l.getD 0 0 ≠ 166) : fs l = (l.getD 0 0, 1, 0) := by unfold fs; rw [if_neg h, if_pos h2]
theorem fs_3 {l : List Nat} (h : l.getD 0 0 = 166) (h2 : l.length = 1) : fs l = (0, 0, 32) := by unfold fs; rw [if_neg (by omega), if_neg (by simpa using h), if_pos h2]
theorem fs_4 {l : List Nat} (h : l.getD 0 0 = 166) (h2 : l.length ≠ 1) : fs l = if l.getD 1 0 = 0 then (166, 2, 0) else if l.getD 1 0 = 1 then (167, 2, 0) else (0, 0, 32) := by unfold fs; rw [if_neg (by omega), if_neg (by simpa using h), if_neg h2]
set_option maxRecDepth 100000 in
set_option maxHeartbeats 400000 in
theorem first_is (b off c : Nat) (l : List Nat) (w : World) (hb : Byt l) (hr : Row w b off l) (hne : l ≠ []) :
    Calls Try.prog 112 #[.slice (some ⟨b, off, none⟩) l.length c] w fun e w' => e = .returned (eans (fs l)) ∧ w' = w := by
  have hpos : 0 < l.length := List.length_pos_iff.2 hne
  have h0 := hr 0 hpos
  rw [Nat.add_zero] at h0
  have hx := getD_lt hb 0
  have hy := getD_lt hb 1
  have h1 : 1 < l.length → w.cell? ⟨b, off + 1, none⟩ = some (.int .u8 ((l.getD 1 0 : Nat) : Int)) := hr 1
  have F1 := hd (@fs_1 l)
  have F2 := hd (@fs_2 l)
  have F3 := hd (@fs_3 l)
  have F4 := hd (@fs_4 l)
  clear hr hb hne
  generalize l.getD 0 0 = x at *
  generalize l.getD 1 0 = y at *
  by_cases c1 : x = 167
  · subst c1
    rw [F1.out rfl]
    go_enter Try.func112, Try.ntmps112
    go_wp2_with fail
    go_ret3
    exact ⟨rfl, rfl⟩
  · by_cases c2 : x = 166
    · subst c2
      by_cases c3 : l.length = 1
      · rw [F3.out rfl c3]
        clear F1 F2 F3 F4 h1
        rw [c3]
        go_enter Try.func112, Try.ntmps112
        go_wp2_with fail
        go_ret3
        exact ⟨rfl, rfl⟩
      · rw [F4.out rfl c3]
        have h2 := h1 (by omega)
        have hl2 : ((l.length : Int) == 1) = false := by simp; omega
        clear F1 F2 F3 F4 h1
        by_cases c4 : y = 0
        · subst c4
          go_enter Try.func112, Try.ntmps112
          go_wp2_with fail
          go_ret3
          exact ⟨rfl, rfl⟩
        · by_cases c5 : y = 1
          · subst c5
            go_enter Try.func112, Try.ntmps112
            go_wp2_with fail
            go_ret3
            exact ⟨rfl, rfl⟩
          · rw [if_neg c4, if_neg c5]
            go_enter Try.func112, Try.ntmps112
            go_wp2_with fail
            go_ret3
            exact ⟨rfl, rfl⟩
    · rw [F2.out c1 c2]
      clear F1 F2 F3 F4 h1
      go_enter Try.func112, Try.ntmps112
      go_wp2_with fail
      go_ret3
      exact ⟨rfl, rfl⟩
end Vt
end Go.Proofs.Ytlddogigbodilaa
namespace Go.Proofs.Ytlddogigbodilaa
open Go.RowKit
namespace Vt
set_option maxRecDepth 100000 in
set_option maxHeartbeats 400000 in
theorem esize_row (b off c : Nat) (l : List Nat) (w : World) (hb : Byt l) (hr : Row w b off l) (hm : l.length ≤ 281474976710656) :
    Calls Try.prog 101 #[.slice (some ⟨b, off, none⟩) l.length c] w fun e w' => e = .returned (.int .i64 (((wr l).length : Nat) : Int)) ∧ w' = w := by
  have HR := hd hr
  have HB := hd hb
  clear hr hb
  go_enter Try.func101, Try.ntmps101
  go_wp2_with fail
  go_loop [3, 10] (fun s i => ∃ k n : Nat, k ≤ l.length ∧ i = .int .i64 (k : Int) ∧ s = .int .i64 (n : Int) ∧ n + k = l.length + (wr (l.take k)).length) (fun _ i => l.length - (intOf i).toNat)
  case atStart => exact ⟨0, l.length, by omega, rfl, rfl, by simp [wr]⟩
  case round =>
    obtain ⟨k, n, hk, rfl, rfl, hn⟩ := hrel
    by_cases hlt : k < l.length
    · have hc := HR.out k hlt
      have hx := getD_lt HB.out k
      have hs := congrArg List.length (wr_succ hlt)
      rw [List.length_append] at hs
      have hw := (wr_len (l.take k)).2
      have hw2 := (wr_len (l.take k)).1
      rw [List.length_take, show min k l.length = k by omega] at hw hw2
      generalize l.getD k 0 = x at *
      have HS : Hid (x = 167 → n + 1 + (k + 1) = l.length + (wr (l.take (k + 1))).length) := by
        show x = 167 → _
        intro h; subst h; rw [hs, e1_lead]; simp; omega
      have HS2 : Hid (x = 166 → n + 1 + (k + 1) = l.length + (wr (l.take (k + 1))).length) := by
        show x = 166 → _
        intro h; subst h; rw [hs, e1_esc]; simp; omega
      have HS3 : Hid (x ≠ 167 → x ≠ 166 → n + (k + 1) = l.length + (wr (l.take (k + 1))).length) := by
        show x ≠ 167 → x ≠ 166 → _
        intro h h2; rw [hs, e1_any h h2]; simp; omega
      have hn2 : n ≤ 3 * l.length := by omega
      clear hs hw hw2 hn
      by_cases c1 : x = 167
      · have HZ := hd (HS.out c1)
        subst c1
        clear HS HS2 HS3
        go_wp2_with fail
        go_round
        case rel => exact ⟨k + 1, n + 1, by omega, by go_num, by go_num, HZ.out⟩
        case measure => simp [intOf]; omega
      · by_cases c2 : x = 166
        · have HZ := hd (HS2.out c2)
          subst c2
          clear HS HS2 HS3
          go_wp2_with fail
          go_round
          case rel => exact ⟨k + 1, n + 1, by omega, by go_num, by go_num, HZ.out⟩
          case measure => simp [intOf]; omega
        · have HZ := hd (HS3.out c1 c2)
          have e1 : ((x : Int) == 167) = false := by simp; omega
          have e2 : ((x : Int) == 166) = false := by simp; omega
          clear HS HS2 HS3
          go_wp2_with fail
          go_round
          case rel => exact ⟨k + 1, n, by omega, by go_num, by go_num, HZ.out⟩
          case measure => simp [intOf]; omega
    · obtain rfl : k = l.length := by omega
      have HN : Hid (n = (wr l).length) := by
        show n = (wr l).length
        rw [List.take_length] at hn; omega
      clear hn
      go_wp2
      go_ret
      exact ⟨by rw [HN.out]; rfl, rfl⟩
set_option maxRecDepth 100000 in
set_option maxHeartbeats 400000 in
theorem esize_nil (a : Option Addr) (c : Nat) (w : World) :
    Calls Try.prog 101 #[.slice a 0 c] w fun e w' => e = .returned (.int .i64 0) ∧ w' = w := by
  go_enter Try.func101, Try.ntmps101
  go_wp2_with fail
  go_loop [3, 10] (fun s i => i = .int .i64 0 ∧ s = .int .i64 0) (fun _ _ => 0)
  case atStart => exact ⟨rfl, rfl⟩
  case round =>
    obtain ⟨rfl, rfl⟩ := hrel
    go_wp2
    go_ret
    exact ⟨rfl, rfl⟩
theorem esize_is (v : Value) (l : List Nat) (w : World) (h : IsB w v l) (hm : l.length ≤ 281474976710656) :
    Calls Try.prog 101 #[v] w fun e w' => e = .returned (.int .i64 (((wr l).length : Nat) : Int)) ∧ w' = w := by
  obtain ⟨hl, _, ⟨rfl, a, c, rfl⟩ | ⟨b, off, c, rfl, h1, h2, _, hr⟩⟩ := h
  · exact esize_nil a c w
  · exact esize_row b off c l w hl hr hm
theorem cell_two_new (w : World) (x y : Value) (t : TypeId) : ∀ j u, [x, y][j]? = some u → (w.alloc (.cells #[x, y] t)).cell? ((⟨w.heap.size, 0, none⟩ : Addr).add j) = some u := by
  intro j u hj
  rw [add_at, Nat.zero_add, World.cell?_alloc_new]
  match j, hj with
  | 0, hj => simpa using hj
  | 1, hj => simpa using hj
  | j + 2, hj => simp at hj
theorem jb_snoc2 {w : World} {base : Nat} {a : Option Addr} {n cap x y : Nat} {l : List Nat} (hx : x < 256) (hy : y < 256) (hb : Byt l) (hn : n = l.length) (h : w.ownsRow base 5 1 (.slice a (n + 2) cap) (n + 2) (bs l ++ [.int .u8 (x : Int), .int .u8 (y : Int)])) : JB w base (.slice a (n + 2) cap) (l ++ [x, y]) := by
  refine ⟨byt_app hb (by intro z hz; simp at hz; omega), ?_⟩
  subst hn
  rw [List.length_append, ← bs_app]
  exact h
set_option maxRecDepth 100000 in
set_option maxHeartbeats 400000 in
theorem wrap_row (b off c : Nat) (l : List Nat) (w : World) (hl : Byt l) (hb : b < w.heap.size) (hr : Row w b off l) (hm : l.length ≤ 140737488355328) :
    Calls Try.prog 84 #[.slice (some ⟨b, off, none⟩) l.length c] w fun e w' => e = .returned (.slice (some ⟨w.heap.size, 0, none⟩) (wr l).length (wr l).length) ∧ JB w' w.heap.size (.slice (some ⟨w.heap.size, 0, none⟩) (wr l).length (wr l).length) (wr l) ∧ Below w.heap.size w w' := by
  have HC := hd (esize_row b off c l w hl hr (by omega))
  have hlen := (wr_len l).2
  have HR := hd hr
  have HL := hd hl
  obtain ⟨i0, hi, hz0, hz1, hz2⟩ := info_parts info_u8
  clear hr hl
  generalize hcap : (wr l).length = cap at *
  have HCAP := hd hcap
  clear hcap
  go_enter Try.func84, Try.ntmps84
  go_wp2_with fail
  refine Calls.mono HC.out ?_
  rintro e w' ⟨rfl, rfl⟩
  clear HC
  go_wp2_with (at_make; refine wpList_make_own _ rfl _ _ 22 rfl w'.heap.size 5 i0 (.int .u8 0) 1 Try.underlying22 hi hz0 hz1 .i64 .i64 (cap : Int) cap rfl rfl rfl (by rw [hz2]; omega) (by unfold maxLen; omega) (Nat.le_refl _) ?_; intro w1 hown hgrow)
  have HB1 : Hid (Below w'.heap.size w' w1) := (Below.refl _ _).grown hgrow (Nat.le_refl _) (fun k hk => by cases hk)
  have HO1 : Hid (JB w1 w'.heap.size (.slice (some ⟨w'.heap.size, 0, none⟩) 0 cap) []) := ⟨byt_nil, hown⟩
  clear hown hgrow
  go_loopw [3, 11] (fun v i wr => ∃ k : Nat, k ≤ l.length ∧ i = .int .i64 (k : Int) ∧ v = .slice (some ⟨w'.heap.size, 0, none⟩) (Vt.wr (l.take k)).length cap ∧ JB wr w'.heap.size (.slice (some ⟨w'.heap.size, 0, none⟩) (Vt.wr (l.take k)).length cap) (Vt.wr (l.take k)) ∧ Below w'.heap.size w' wr) (fun _ i _ => l.length - (intOf i).toNat)
  case atStart => exact ⟨0, by omega, rfl, rfl, HO1.out, HB1.out⟩
  case round =>
    clear HO1 HB1
    obtain ⟨k, hk, rfl, rfl, hJ, hB⟩ := hrel
    have HJ := hd hJ
    have HB := hd hB
    clear hJ hB
    by_cases hlt : k < l.length
    · have hc : wr.cell? ⟨b, off + k, none⟩ = some (.int .u8 ((l.getD k 0 : Nat) : Int)) := by
        rw [HB.out.cell hb]; exact HR.out k hlt
      have hx := getD_lt HL.out k
      have HE := hd (wr_succ hlt)
      have hec : (Vt.wr (l.take (k + 1))).length ≤ cap := by
        rw [← HCAP.out]
        have : Vt.wr l = Vt.wr (l.take (k + 1)) ++ Vt.wr (l.drop (k + 1)) := by rw [← wr_append, List.take_append_drop]
        rw [this, List.length_append]; omega
      have hfit : (Vt.wr (l.take k)).length + (e1 (l.getD k 0)).length ≤ cap := by
        have := congrArg List.length HE.out
        rw [List.length_append] at this; omega
      clear hec
      have HO := hd HJ.out.2
      generalize l.getD k 0 = x at *
      generalize henc : Vt.wr (l.take k) = acc at *
      clear henc
      by_cases c1 : x = 167
      · subst c1
        rw [e1_lead] at HE hfit
        have hfit2 : acc.length + 2 ≤ cap := hfit
        clear hfit
        go_wp2_with (at_builtin; refine wpList_append_fits _ rfl _ _ 22 rfl w'.heap.size 5 i0 1 Try.underlying22 hi hz1 w'.heap.size acc.length cap (bs acc) rfl (HO.out.alloc _) ⟨wr.heap.size, 0, none⟩ 2 2 [_, _] rfl rfl (cell_two_new _ _ _ _) (by simp [Value.oneCell']) hfit2 ?_; intro w2 hown2 hgrow2)
        have HO2 := hd (jb_snoc2 (x := 166) (y := 1) (by omega) (by omega) HJ.out.1 rfl hown2)
        have HB2 := hd ((HB.out.alloc HB.out.size _).grown hgrow2 (by have := HB.out.size; simp; omega) (fun k hk => by cases hk; exact Nat.le_refl _))
        rw [← HE.out] at HO2
        have HFL : Hid (acc.length + 2 = (Vt.wr (l.take (k + 1))).length) := by
          show acc.length + 2 = _
          rw [HE.out]; simp
        rw [HFL.out] at HO2
        clear hown2 hgrow2 HO
        rw [HFL.out]
        go_roundw
        case rel => exact ⟨k + 1, by omega, by go_num, rfl, HO2.out, HB2.out⟩
        case measure => simp [intOf]; omega
      · by_cases c2 : x = 166
        · subst c2
          rw [e1_esc] at HE hfit
          have hfit2 : acc.length + 2 ≤ cap := hfit
          clear hfit
          go_wp2_with (at_builtin; refine wpList_append_fits _ rfl _ _ 22 rfl w'.heap.size 5 i0 1 Try.underlying22 hi hz1 w'.heap.size acc.length cap (bs acc) rfl (HO.out.alloc _) ⟨wr.heap.size, 0, none⟩ 2 2 [_, _] rfl rfl (cell_two_new _ _ _ _) (by simp [Value.oneCell']) hfit2 ?_; intro w2 hown2 hgrow2)
          have HO2 := hd (jb_snoc2 (x := 166) (y := 0) (by omega) (by omega) HJ.out.1 rfl hown2)
          have HB2 := hd ((HB.out.alloc HB.out.size _).grown hgrow2 (by have := HB.out.size; simp; omega) (fun k hk => by cases hk; exact Nat.le_refl _))
          rw [← HE.out] at HO2
          have HFL : Hid (acc.length + 2 = (Vt.wr (l.take (k + 1))).length) := by
            show acc.length + 2 = _
            rw [HE.out]; simp
          rw [HFL.out] at HO2
          clear hown2 hgrow2 HO
          rw [HFL.out]
          go_roundw
          case rel => exact ⟨k + 1, by omega, by go_num, rfl, HO2.out, HB2.out⟩
          case measure => simp [intOf]; omega
        · rw [e1_any c1 c2] at HE hfit
          have hfit2 : acc.length + 1 ≤ cap := hfit
          have q1 : ((x : Int) == 167) = false := by simp; omega
          have q2 : ((x : Int) == 166) = false := by simp; omega
          clear hfit
          go_wp2_with (at_builtin; refine wpList_append_fits _ rfl _ _ 22 rfl w'.heap.size 5 i0 1 Try.underlying22 hi hz1 w'.heap.size acc.length cap (bs acc) rfl (HO.out.alloc _) ⟨wr.heap.size, 0, none⟩ 1 1 [_] rfl rfl (cell_one_new _ _ _) (by simp [Value.oneCell']) hfit2 ?_; intro w2 hown2 hgrow2)
          have HO2 := hd (jb_snoc (y := x) rfl hx HJ.out.1 rfl hown2)
          have HB2 := hd ((HB.out.alloc HB.out.size _).grown hgrow2 (by have := HB.out.size; simp; omega) (fun k hk => by cases hk; exact Nat.le_refl _))
          rw [← HE.out] at HO2
          have HFL : Hid (acc.length + 1 = (Vt.wr (l.take (k + 1))).length) := by
            show acc.length + 1 = _
            rw [HE.out]; simp
          rw [HFL.out] at HO2
          clear hown2 hgrow2 HO
          rw [HFL.out]
          go_roundw
          case rel => exact ⟨k + 1, by omega, by go_num, rfl, HO2.out, HB2.out⟩
          case measure => simp [intOf]; omega
    · obtain rfl : k = l.length := by omega
      rw [List.take_length, HCAP.out] at HJ
      go_wp2
      go_ret
      exact ⟨by rw [show (Vt.wr (l.take l.length)).length = cap by rw [List.take_length]; exact HCAP.out]; rfl, HJ.out, HB.out⟩
set_option maxRecDepth 100000 in
set_option maxHeartbeats 400000 in
theorem wrap_nil (a : Option Addr) (c : Nat) (w : World) :
    Calls Try.prog 84 #[.slice a 0 c] w fun e w' => e = .returned (.slice (some ⟨w.heap.size, 0, none⟩) 0 0) ∧ JB w' w.heap.size (.slice (some ⟨w.heap.size, 0, none⟩) 0 0) [] ∧ Below w.heap.size w w' := by
  obtain ⟨i0, hi, hz0, hz1, hz2⟩ := info_parts info_u8
  go_enter Try.func84, Try.ntmps84
  go_wp2_with fail
  refine Calls.mono (esize_nil a c w) ?_
  rintro e w' ⟨rfl, rfl⟩
  go_wp2_with (at_make; refine wpList_make_own _ rfl _ _ 22 rfl w'.heap.size 5 i0 (.int .u8 0) 1 Try.underlying22 hi hz0 hz1 .i64 .i64 0 0 rfl rfl rfl (by rw [hz2]; omega) (by unfold maxLen; omega) (Nat.le_refl _) ?_; intro w1 hown hgrow)
  have HB1 : Hid (Below w'.heap.size w' w1) := (Below.refl _ _).grown hgrow (Nat.le_refl _) (fun k hk => by cases hk)
  have HO1 : Hid (JB w1 w'.heap.size (.slice (some ⟨w'.heap.size, 0, none⟩) 0 0) []) := ⟨byt_nil, hown⟩
  clear hown hgrow
  go_loopw [3, 11] (fun v i wr => i = .int .i64 0 ∧ v = .slice (some ⟨w'.heap.size, 0, none⟩) 0 0 ∧ wr = w1) (fun _ _ _ => 0)
  case atStart => exact ⟨rfl, rfl, rfl⟩
  case round =>
    obtain ⟨rfl, rfl, rfl⟩ := hrel
    go_wp2
    go_ret
    exact ⟨rfl, HO1.out, HB1.out⟩
theorem wrap_is (v : Value) (l : List Nat) (w : World) (h : IsB w v l) (hm : l.length ≤ 140737488355328) :
    Calls Try.prog 84 #[v] w fun e w' => e = .returned (.slice (some ⟨w.heap.size, 0, none⟩) (wr l).length (wr l).length) ∧ JB w' w.heap.size (.slice (some ⟨w.heap.size, 0, none⟩) (wr l).length (wr l).length) (wr l) ∧ Below w.heap.size w w' := by
  obtain ⟨hl, _, ⟨rfl, a, c, rfl⟩ | ⟨b, off, c, rfl, _, _, hb, hr⟩⟩ := h
  · exact wrap_nil a c w
  · exact wrap_row b off c l w hl hb hr hm
end Vt
end Go.Proofs.Ytlddogigbodilaa
