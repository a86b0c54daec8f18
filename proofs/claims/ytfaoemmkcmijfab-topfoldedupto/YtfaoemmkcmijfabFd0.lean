/-
  WHICH RECORD COUNTS, PLAINLY: of each key one, by the order of records; that neither order nor number matters; fold of fold. No program.
-/
import Derived.Test.YtfaoemmkcmijfabP3
import Derived.Sort.KeysCollected
namespace Go.Proofs.Ytfaoemmkcmijfab
namespace Fd
open Vt
abbrev U8s := List UInt8
/-- one stands ahead of the other, byte by byte -/
def SL (a b : U8s) : Prop := a ≤ b ∧ a ≠ b
theorem SL.asym {a b : U8s} (h : SL a b) (g : SL b a) : False := h.2 (List.le_antisymm h.1 g.1)
theorem SL.irr {a : U8s} (h : SL a a) : False := h.2 rfl
def kb (r : Rec) : U8s := r.key.data.toList
theorem kb_inj {a b : ByteArray} (h : a.data.toList = b.data.toList) : a = b := by
  rcases a with ⟨⟨x⟩⟩; rcases b with ⟨⟨y⟩⟩
  simp at h ⊢; exact h
theorem leB_tr : ∀ a b c : U8s, leB a b = true → leB b c = true → leB a c = true := fun a b c h1 h2 => by simp only [leB, decide_eq_true_eq] at *; exact List.le_trans h1 h2
theorem leB_to : ∀ a b : U8s, (leB a b || leB b a) = true := fun a b => by simp only [leB, Bool.or_eq_true, decide_eq_true_eq]; exact List.le_total a b
/-- numbers as the types have them -/
def W64 (l : List Rec) : Prop := ∀ r ∈ l, r.lsn < 18446744073709551616
/-- es: of each key of l one record, the one that counts -/
structure Cnt (l es : List Rec) : Prop where
  mem : ∀ e ∈ es, e ∈ l
  may : ∀ e ∈ es, rf (ofR e) = 0
  top : ∀ e ∈ es, ∀ r ∈ l, r.key = e.key → cp r e ≤ 0
  all : ∀ r ∈ l, rf (ofR r) = 0 → ∃ e ∈ es, e.key = r.key
def Dif (es : List Rec) : Prop := es.Pairwise fun a b => a.key ≠ b.key
def Srt (es : List Rec) : Prop := es.Pairwise fun a b => SL (kb a) (kb b)
theorem cnt_nil : Cnt [] [] := ⟨(fun e he => by cases he), (fun e he => by cases he), (fun e he => by cases he), (fun e he => by cases he)⟩
def fnR (es : List Rec) (s : ByteArray) : Option Rec := es.find? fun e => decide (e.key = s)
def gtR (es : List Rec) (s : ByteArray) : Rec := (fnR es s).getD zr
def ptR (es : List Rec) (r : Rec) : List Rec := es.filter (fun e => decide (e.key ≠ r.key)) ++ [r]
theorem fnR_some {es : List Rec} {s : ByteArray} {e : Rec} (h : fnR es s = some e) : e ∈ es ∧ e.key = s := by
  unfold fnR at h
  exact ⟨List.mem_of_find?_eq_some h, by simpa using List.find?_some h⟩
theorem fnR_none {es : List Rec} {s : ByteArray} : fnR es s = none ↔ ∀ e ∈ es, e.key ≠ s := by
  unfold fnR
  rw [List.find?_eq_none]
  simp
theorem fnR_mem {es : List Rec} (hn : Dif es) {e : Rec} (h : e ∈ es) : fnR es e.key = some e := by
  induction es with
  | nil => cases h
  | cons a r ih =>
    unfold Dif at hn
    rw [List.pairwise_cons] at hn
    unfold fnR
    rw [List.find?_cons]
    rcases List.mem_cons.1 h with rfl | h
    · simp
    · have : a.key ≠ e.key := hn.1 e h
      simp only [this, decide_false]
      exact ih hn.2 h
theorem zr_no : rf (ofR zr) ≠ 0 := by decide
theorem cp_zr {r : Rec} : (0 < cp r zr ↔ rf (ofR r) = 0) := by
  unfold cp
  by_cases h : rf (ofR r) = 0
  · rw [if_neg (by omega), if_pos zr_no]; simp [h]
  · rw [if_pos h, if_pos zr_no]; simp [h]
theorem cp_pos {r g : Rec} (h : 0 < cp r g) : rf (ofR r) = 0 := by
  rcases cp_ways r g with ⟨_, _, q⟩ | ⟨_, _, q⟩ | ⟨q, _⟩ | ⟨q, _⟩
  · omega
  · omega
  · exact q
  · exact q
theorem cp_self (r : Rec) : cp r r = 0 := by have := cp_neg r r; omega
theorem ptR_dif {es : List Rec} (hn : Dif es) (r : Rec) : Dif (ptR es r) := by
  unfold Dif ptR
  rw [List.pairwise_append]
  refine ⟨hn.filter _, List.pairwise_singleton _ _, fun a ha b hb => ?_⟩
  rw [List.mem_singleton.1 hb]
  simpa using (List.mem_filter.1 ha).2
/-- one record more -/
theorem Cnt.step {l es : List Rec} (h : Cnt l es) (hn : Dif es) (r : Rec) : (0 < cp r (gtR es r.key) → Cnt (l ++ [r]) (ptR es r)) ∧ (¬ 0 < cp r (gtR es r.key) → Cnt (l ++ [r]) es) := by
  constructor
  · intro hp
    have hr := cp_pos hp
    have hle : ∀ x ∈ l, x.key = r.key → cp x r ≤ 0 := by
      intro x hx hk
      by_cases hxf : rf (ofR x) = 0
      · obtain ⟨e, he, hek⟩ := h.all x hx hxf
        have hg : gtR es r.key = e := by
          unfold gtR
          rw [← hk, ← hek, fnR_mem hn he]; rfl
        rw [hg] at hp
        have h1 := h.top e he x hx hek.symm
        have h2 : cp e r ≤ 0 := by rw [cp_neg r e]; omega
        exact (cp_trans x e r h1 h2).1
      · rcases cp_ways x r with ⟨_, q, _⟩ | ⟨_, _, q⟩ | ⟨q, _⟩ | ⟨q, _⟩
        · exact absurd hr q
        · omega
        · exact absurd q hxf
        · exact absurd q hxf
    refine ⟨fun e he => ?_, fun e he => ?_, fun e he x hx hk => ?_, fun x hx hxf => ?_⟩
    · rcases List.mem_append.1 he with he | he
      · exact List.mem_append_left _ (h.mem e (List.mem_filter.1 he).1)
      · exact List.mem_append_right _ he
    · rcases List.mem_append.1 he with he | he
      · exact h.may e (List.mem_filter.1 he).1
      · rw [List.mem_singleton.1 he]; exact hr
    · rcases List.mem_append.1 he with he | he
      · obtain ⟨he, hne⟩ := List.mem_filter.1 he
        rcases List.mem_append.1 hx with hx | hx
        · exact h.top e he x hx hk
        · rw [List.mem_singleton.1 hx] at hk
          exact absurd hk.symm (by simpa using hne)
      · rw [List.mem_singleton.1 he] at hk ⊢
        rcases List.mem_append.1 hx with hx | hx
        · exact hle x hx hk
        · rw [List.mem_singleton.1 hx, cp_self]; omega
    · by_cases hk : x.key = r.key
      · exact ⟨r, List.mem_append_right _ (List.mem_singleton.2 rfl), hk.symm⟩
      · rcases List.mem_append.1 hx with hx | hx
        · obtain ⟨e, he, hek⟩ := h.all x hx hxf
          exact ⟨e, List.mem_append_left _ (List.mem_filter.2 ⟨he, by simpa [hek] using hk⟩), hek⟩
        · exact absurd (by rw [List.mem_singleton.1 hx]) hk
  · intro hp
    refine ⟨fun e he => List.mem_append_left _ (h.mem e he), h.may, fun e he x hx hk => ?_, fun x hx hxf => ?_⟩
    · rcases List.mem_append.1 hx with hx | hx
      · exact h.top e he x hx hk
      · rw [List.mem_singleton.1 hx] at hk ⊢
        have hg : gtR es r.key = e := by
          unfold gtR
          rw [hk, fnR_mem hn he]; rfl
        rw [hg] at hp
        omega
    · rcases List.mem_append.1 hx with hx | hx
      · exact h.all x hx hxf
      · rw [List.mem_singleton.1 hx] at hxf ⊢
        cases hf : fnR es r.key with
        | none =>
          refine absurd ?_ hp
          unfold gtR
          rw [hf]
          exact cp_zr.2 hxf
        | some e => exact ⟨e, (fnR_some hf).1, (fnR_some hf).2⟩
/-- lists in order with the same members are the same -/
theorem srt_eq : ∀ {a b : List Rec}, Srt a → Srt b → (∀ x, x ∈ a ↔ x ∈ b) → a = b := by
  intro a
  induction a with
  | nil => intro b _ _ h; cases b with
    | nil => rfl
    | cons y t => exact absurd ((h y).2 (List.mem_cons_self ..)) (by simp)
  | cons x s ih =>
    intro b ha hb h
    cases b with
    | nil => exact absurd ((h x).1 (List.mem_cons_self ..)) (by simp)
    | cons y t =>
      obtain ⟨ha1, ha2⟩ := List.pairwise_cons.1 ha
      obtain ⟨hb1, hb2⟩ := List.pairwise_cons.1 hb
      have hxy : x = y := by
        rcases List.mem_cons.1 ((h x).1 (List.mem_cons_self ..)) with q | q
        · exact q
        · rcases List.mem_cons.1 ((h y).2 (List.mem_cons_self ..)) with q2 | q2
          · exact q2.symm
          · exact ((hb1 x q).asym (ha1 y q2)).elim
      subst hxy
      congr 1
      refine ih ha2 hb2 fun z => ⟨fun hz => ?_, fun hz => ?_⟩
      · rcases List.mem_cons.1 ((h z).1 (List.mem_cons_of_mem _ hz)) with q | q
        · rw [q] at hz; exact (ha1 x hz).irr.elim
        · exact q
      · rcases List.mem_cons.1 ((h z).2 (List.mem_cons_of_mem _ hz)) with q | q
        · rw [q] at hz; exact (hb1 x hz).irr.elim
        · exact q
theorem Cnt.sub {l l' es es' : List Rec} (h : Cnt l es) (h' : Cnt l' es') (hw : W64 l) (hs : ∀ x, x ∈ l ↔ x ∈ l') : ∀ x ∈ es, x ∈ es' := by
  intro x hx
  obtain ⟨y, hy, hk⟩ := h'.all x ((hs x).1 (h.mem x hx)) (h.may x hx)
  have h1 := h.top x hx y ((hs y).2 (h'.mem y hy)) hk
  have h2 := h'.top y hy x ((hs x).1 (h.mem x hx)) hk.symm
  have h3 : cp x y = 0 := by have := cp_neg x y; omega
  rw [cp_same (hw x (h.mem x hx)) (hw y ((hs y).2 (h'.mem y hy))) h3 (.inl (h.may x hx))]
  exact hy
/-- neither order nor number matters -/
theorem Cnt.same {l l' es es' : List Rec} (h : Cnt l es) (h' : Cnt l' es') (hw : W64 l) (hs : ∀ x, x ∈ l ↔ x ∈ l') (s1 : Srt es) (s2 : Srt es') : es = es' :=
  srt_eq s1 s2 fun x => ⟨h.sub h' hw hs x, h'.sub h (fun r hr => hw r ((hs r).2 hr)) (fun y => (hs y).symm) x⟩
theorem Srt.dif {es : List Rec} (h : Srt es) : Dif es := List.Pairwise.imp (fun {a b} q e => q.2 (by unfold kb; rw [e])) h
theorem one_key {es : List Rec} (hn : Dif es) {a b : Rec} (ha : a ∈ es) (hb : b ∈ es) (hk : a.key = b.key) : a = b := by
  have h1 := fnR_mem hn ha
  have h2 := fnR_mem hn hb
  rw [hk, h2] at h1
  exact (Option.some.inj h1).symm
/-- fold of fold -/
theorem Cnt.again {l es : List Rec} (h : Cnt l es) (hn : Dif es) : Cnt es es := by
  refine ⟨fun _ q => q, h.may, fun e he x hx hk => ?_, fun r hr _ => ⟨r, hr, rfl⟩⟩
  rw [one_key hn hx he hk, cp_self]; omega
/-- the entries in the order of their keys -/
def inOrder (es : List Rec) : List Rec := ((es.map kb).mergeSort leB).map fun k => gtR es ⟨k.toArray⟩
theorem gtR_kb {es : List Rec} (hn : Dif es) {e : Rec} (h : e ∈ es) : gtR es ⟨(kb e).toArray⟩ = e := by
  have : (⟨(kb e).toArray⟩ : ByteArray) = e.key := by unfold kb; rcases e with ⟨_, _, ⟨⟨x⟩⟩, _⟩; rfl
  unfold gtR
  rw [this, fnR_mem hn h]; rfl
theorem inOrder_mem {es : List Rec} (hn : Dif es) (x : Rec) : x ∈ inOrder es ↔ x ∈ es := by
  unfold inOrder
  rw [List.mem_map]
  constructor
  · rintro ⟨k, hk, rfl⟩
    rw [List.mem_mergeSort, List.mem_map] at hk
    obtain ⟨e, he, rfl⟩ := hk
    rw [gtR_kb hn he]; exact he
  · intro hx
    exact ⟨kb x, by rw [List.mem_mergeSort]; exact List.mem_map_of_mem hx, gtR_kb hn hx⟩
theorem inOrder_srt {es : List Rec} (hn : Dif es) : Srt (inOrder es) := by
  have h1 : ((es.map kb).mergeSort leB).Pairwise fun a b => leB a b = true := List.pairwise_mergeSort leB_tr leB_to _
  have h2 : ((es.map kb).mergeSort leB).Pairwise fun a b => a ≠ b := by
    refine (List.mergeSort_perm _ _).symm.pairwise ?_ (fun h e => h e.symm)
    rw [List.pairwise_map]
    exact hn.imp fun {a b} q e => q (kb_inj e)
  unfold Srt inOrder
  rw [List.pairwise_map]
  refine List.Pairwise.imp_of_mem (R := fun a b => leB a b = true ∧ a ≠ b) ?_ (h1.and h2)
  intro a b ha hb hab
  rw [List.mem_mergeSort, List.mem_map] at ha hb
  obtain ⟨x, hx, rfl⟩ := ha
  obtain ⟨y, hy, rfl⟩ := hb
  rw [gtR_kb hn hx, gtR_kb hn hy]
  exact ⟨by simpa [leB] using hab.1, hab.2⟩
theorem Cnt.ordered {l es : List Rec} (h : Cnt l es) (hn : Dif es) : Cnt l (inOrder es) :=
  ⟨fun e he => h.mem e ((inOrder_mem hn e).1 he), fun e he => h.may e ((inOrder_mem hn e).1 he), fun e he => h.top e ((inOrder_mem hn e).1 he), fun r hr hf => by
    obtain ⟨e, he, hk⟩ := h.all r hr hf
    exact ⟨e, (inOrder_mem hn e).2 he, hk⟩⟩
end Fd
end Go.Proofs.Ytfaoemmkcmijfab
