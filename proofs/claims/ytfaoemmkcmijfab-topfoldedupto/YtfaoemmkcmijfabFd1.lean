/-
  A MAP FROM KEYS TO RECORDS IN MEMORY.
-/
import Derived.Test.YtfaoemmkcmijfabFd0
import Derived.Test.YtfaoemmkcmijfabJr0
import Derived.Test.YtfaoemmkcmijfabFnc
import Derived.Maps.OwnSet
import Derived.Maps.RangeWalk
namespace Go.Proofs.Ytfaoemmkcmijfab
open Go.RowKit Go.Maps Go.WideMaps Go.Sort
namespace Fd
open Vt
abbrev TM : TypeId := 42
abbrev TS : TypeId := 9
abbrev TR : TypeId := 28
theorem law : Keyed Try.prog TS := string_keyed Try.underlying9
def rdR (r : Rec) : DataW Unit := .agg [.lit (.int .u64 (r.lsn : Int)), .lit (.int .i64 r.kind), .lit (.string r.key.data.toList), .lit (.string r.val.data.toList)]
theorem rdR_inj {a b : Rec} (h : rdR a = rdR b) : a = b := by
  unfold rdR at h
  injection h with h
  injection h with h1 h
  injection h with h2 h
  injection h with h3 h
  injection h with h4 h
  injection h1 with h1
  injection h2 with h2
  injection h3 with h3
  injection h4 with h4
  injection h1 with _ h1
  injection h2 with _ h2
  injection h3 with h3
  injection h4 with h4
  rcases a with ⟨a1, a2, a3, a4⟩
  rcases b with ⟨b1, b2, b3, b4⟩
  simp only at h1 h2 h3 h4
  rw [Int.ofNat_inj.1 h1, h2, kb_inj h3, kb_inj h4]
/-- a record as a map's element -/
noncomputable def recElem (v : Value) : Option (DataW Unit × List MemPlace) :=
  open Classical in if h : ∃ r : Rec, v = .agg (rv r) then some (rdR h.choose, []) else none
theorem rv_inj {a b : Rec} (h : rv a = rv b) : a = b := by
  rcases a with ⟨a1, a2, a3, a4⟩
  rcases b with ⟨b1, b2, b3, b4⟩
  simp only [rv, Array.mk.injEq, List.cons.injEq, Value.int.injEq, Value.string.injEq, true_and, and_true] at h
  obtain ⟨h1, h2, h3, h4⟩ := h
  rw [Int.ofNat_inj.1 h1, h2, h3, h4]
theorem recElem_mk (r : Rec) : recElem (.agg (rv r)) = some (rdR r, []) := by
  unfold recElem
  have h : ∃ q : Rec, Value.agg (rv r) = .agg (rv q) := ⟨r, rfl⟩
  rw [dif_pos h]
  have := h.choose_spec
  injection this with this
  rw [← rv_inj this]
theorem recElem_inv {v : Value} {y : DataW Unit × List MemPlace} (h : recElem v = some y) : ∃ r, v = .agg (rv r) ∧ y = (rdR r, []) := by
  unfold recElem at h
  split at h
  · rename_i q
    refine ⟨q.choose, q.choose_spec, ?_⟩
    exact (Option.some.inj h).symm
  · cases h
def kl (s : ByteArray) : Lit := .string s.data.toList
theorem kl_inj {s t : ByteArray} (h : kl s = kl t) : s = t := by
  unfold kl at h
  injection h with h
  exact kb_inj h
theorem key_kl {s : ByteArray} (h : s.size ≤ maxLen) : keyOf Try.prog TS (.string s) = some (kl s) := keyOf_string_mk Try.underlying9 h
theorem kl_is {s : ByteArray} (h : s.size ≤ maxLen) : WideAt.IsKeyLit (kl s) := law.key (key_kl h)
/-- block m is a map from keys to these records -/
def MR (w : World) (m : Nat) (es : List Rec) : Prop :=
  ∃ D : DataW Unit, w.ownsMap Try.prog TS recElem m es.length D ∧ (∀ s : ByteArray, s.size ≤ maxLen → D.atKey (kl s) (rdR zr) = rdR (gtR es s)) ∧ (∀ s : ByteArray, s.size ≤ maxLen → Maps.has D (kl s) = (fnR es s).isSome) ∧ Maps.size D = es.length
theorem own_exact {w : World} {m n : Nat} {D : DataW Unit} (h : w.ownsMap Try.prog TS recElem m n D) {k : Nat} (hk : Maps.size D = k) : w.ownsMap Try.prog TS recElem m k D := by
  obtain ⟨es, clock, hb, F, hs, hD⟩ := h
  refine ⟨es, clock, hb, F, ?_, hD⟩
  rw [← hk, hD]
  simp [Maps.size, length_sorted]
theorem MR.same {w w' : World} {m : Nat} {es : List Rec} (h : MR w m es) (hb : w'.heap[m]? = w.heap[m]?) : MR w' m es := by
  obtain ⟨D, ⟨x, c, h1, h2⟩, hD⟩ := h
  exact ⟨D, ⟨x, c, hb.trans h1, h2⟩, hD⟩
theorem MR.lt {w : World} {m : Nat} {es : List Rec} (h : MR w m es) : m < w.heap.size := by
  obtain ⟨D, h1, _⟩ := h
  exact h1.lt
theorem MR.below {w w' : World} {m : Nat} {es : List Rec} (h : MR w m es) (hb : Below w.heap.size w w') : MR w' m es := h.same (hb.block m h.lt)
theorem MR.new (w : World) : MR (w.alloc (.map #[] 0)) w.heap.size [] := ⟨.map [], World.ownsMap_made w _ _ _, fun _ _ => rfl, fun _ _ => rfl, rfl⟩
theorem MR.notBlk {w : World} {m : Nat} {es : List Rec} (h : MR w m es) {X : Nat} {T : TypeId} {cs : List Value} (hX : Blk w X T cs) : X ≠ m := by
  rintro rfl
  obtain ⟨D, ⟨x, c, h1, _⟩, _⟩ := h
  have h2 : w.heap[X]? = some (.cells cs.toArray T (0, 0)) := hX
  rw [h1] at h2
  cases h2
theorem zeroR (w : World) : (zeroValue TR).run Try.prog w = .ok (.agg (rv zr)) w := by kernel_rfl
theorem MR.look {w : World} {m : Nat} {es : List Rec} (h : MR w m es) {s : ByteArray} (hs : s.size ≤ maxLen) : (Instr.lookup TM (.map (some m)) (.string s) false).run Try.prog w = .ok (.agg (rv (gtR es s))) w := by
  obtain ⟨D, h1, h2, _⟩ := h
  obtain ⟨v, ps, hr, hv⟩ := h1.lookup law Try.underlying42 (zeroR w) (recElem_mk zr) (key_kl hs)
  have hv' : recElem v = some (D.atKey (kl s) (rdR zr), ps) := hv
  rw [h2 s hs] at hv'
  obtain ⟨x, rfl, hx⟩ := recElem_inv hv'
  rw [hr, rdR_inj (congrArg Prod.fst hx)]
theorem fnR_pt {es : List Rec} {r : Rec} (s : ByteArray) : fnR (ptR es r) s = if r.key = s then some r else fnR es s := by
  unfold fnR ptR
  rw [List.find?_append, List.find?_filter]
  by_cases q : r.key = s
  · rw [if_pos q]
    have h0 : es.find? (fun a => decide (decide (a.key ≠ r.key) = true ∧ decide (a.key = s) = true)) = none := by
      rw [List.find?_eq_none]
      intro x _
      simp only [decide_eq_true_eq, not_and]
      exact fun h1 h2 => h1 (h2.trans q.symm)
    rw [h0]
    simp [q]
  · rw [if_neg q]
    have h0 : (fun a : Rec => decide (decide (a.key ≠ r.key) = true ∧ decide (a.key = s) = true)) = fun a => decide (a.key = s) := by
      funext a
      by_cases h2 : a.key = s
      · have h3 : a.key ≠ r.key := fun e => q (e.symm.trans h2)
        rw [decide_eq_true h2]
        exact decide_eq_true ⟨decide_eq_true h3, rfl⟩
      · rw [decide_eq_false h2]
        exact decide_eq_false (fun h => by simp at h)
    rw [h0]
    simp [q]
theorem ptR_len {es : List Rec} (hn : Dif es) (r : Rec) : (ptR es r).length = if (fnR es r.key).isSome then es.length else es.length + 1 := by
  unfold ptR
  rw [List.length_append, List.length_singleton]
  induction es with
  | nil => rfl
  | cons a t ih =>
    unfold Dif at hn
    rw [List.pairwise_cons] at hn
    have ih := ih hn.2
    unfold fnR at ih ⊢
    rw [List.filter_cons, List.find?_cons]
    by_cases e : a.key = r.key
    · have h1 : t.filter (fun f => decide (f.key ≠ r.key)) = t := by
        rw [List.filter_eq_self]
        intro x hx
        have := hn.1 x hx
        rw [e] at this
        simpa using fun q : x.key = r.key => this q.symm
      simp only [e, ne_eq, not_true_eq_false, decide_false, Bool.false_eq_true, if_false, decide_true, Option.isSome_some, if_true, List.length_cons]
      simp only [ne_eq] at h1
      rw [h1]
    · simp only [e, ne_eq, not_false_eq_true, decide_true, if_true, decide_false, List.length_cons]
      simp only [ne_eq] at ih
      split at ih <;> rename_i h0
      · rw [if_pos h0]; omega
      · rw [if_neg h0]; omega
theorem MR.store {w : World} {m : Nat} {es : List Rec} (h : MR w m es) (hn : Dif es) (r : Rec) (hs : r.key.size ≤ maxLen) (hl : es.length < maxLen) :
    ∃ w', (Instr.mapUpdate TM (.map (some m)) (.string r.key) (.agg (rv r))).run Try.prog w = .ok () w' ∧ MR w' m (ptR es r) ∧ w.mapTurned w' m := by
  obtain ⟨D, h1, h2, h3, h4⟩ := h
  obtain ⟨w', hr, ho, ht⟩ := h1.store law Try.underlying42 hl (key_kl hs) (recElem_mk r)
  have htd := h1.tidy law
  have hm := htd.isMap
  have hsz : Maps.size (D.put (kl r.key) (rdR r)) = (ptR es r).length := by
    rw [Maps.size_put htd, h3 _ hs, h4, ptR_len hn]
  refine ⟨w', hr, ⟨_, own_exact ho hsz, fun s hss => ?_, fun s hss => ?_, hsz⟩, ht⟩
  · unfold gtR
    rw [fnR_pt]
    by_cases q : r.key = s
    · rw [if_pos q, ← q, Maps.atKey_put_same hm (kl_is hs)]; rfl
    · rw [if_neg q, Maps.atKey_put_other (fun e' => q (kl_inj e').symm), h2 s hss]; rfl
  · rw [fnR_pt]
    by_cases q : r.key = s
    · rw [if_pos q, ← q, Maps.has_put_same hm (kl_is hs)]; rfl
    · rw [if_neg q, Maps.has_put_other (fun e' => q (kl_inj e').symm), h3 s hss]
end Fd
end Go.Proofs.Ytfaoemmkcmijfab
