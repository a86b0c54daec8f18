/-
  A DISK IN MEMORY: a struct, a map from names to pointers, a struct and a row of bytes for each file; which blocks are its own; what a call leaves of all others.
  THE WALKS OF isName, (*Disk).bar, (*Disk).find, due.
  A REGION THAT DRAWS ITS ORDER, BY AN INVARIANT: whatever the order in which its operations come up, what each has yielded is told by a property that later operations leave standing; so each operation is looked at once, not once for each order. No condition beyond those that each theorem bears.
-/
import Derived.Test.YtngnbkdfbmhndaaGreatMaa
import Derived.Test.YtngnbkdfbmhndaaGreatMab
import Derived.Maps.OwnSet
import Derived.Maps.RangeWalk
import Derived.WalkKit
namespace Go.Proofs.YtngnbkdfbmhndaaGreat
open Go.RowKit Go.Maps Go.WideMaps
namespace Dk
open Vt
abbrev TD : TypeId := 104
abbrev TF : TypeId := 94
abbrev TM : TypeId := 102
abbrev TS : TypeId := 9
abbrev TP : TypeId := 92
theorem law : Keyed Tryz.prog TS := string_keyed Tryz.underlying9
/-- a pointer to a whole block, or none, as a map's element -/
def ptrElem (v : Value) : Option (DataW Unit × List MemPlace) :=
  match v with
  | .pointer none => some (.nil, [])
  | .pointer (some ⟨b, 0, none⟩) => some (.lit (.int .u64 b), [])
  | _ => none
def ptrV : Option Nat → Value
  | none => .pointer none
  | some b => .pointer (some ⟨b, 0, none⟩)
def rdP : Option Nat → DataW Unit
  | none => .nil
  | some b => .lit (.int .u64 b)
theorem ptrElem_mk (x : Option Nat) : ptrElem (ptrV x) = some (rdP x, []) := by cases x <;> rfl
theorem ptrElem_inv {v : Value} {y : DataW Unit × List MemPlace} (h : ptrElem v = some y) : ∃ x, v = ptrV x ∧ y = (rdP x, []) := by
  unfold ptrElem at h
  split at h
  · cases h; exact ⟨none, rfl, rfl⟩
  · cases h; exact ⟨some _, rfl, rfl⟩
  · cases h
theorem rdP_inj {x y : Option Nat} (h : rdP x = rdP y) : x = y := by
  cases x <;> cases y
  · rfl
  · cases h
  · cases h
  · injection h with h
    injection h with _ h
    rw [Int.ofNat_inj.1 h]
/-- a file in memory -/
structure En where
  nm : ByteArray
  blk : Nat
  val : Value
  dat : List Nat
  las : Nat
def En.fi (e : En) : Fi := ⟨e.nm, e.dat, e.las⟩
def fnd (es : List En) (s : ByteArray) : Option En := es.find? fun e => decide (e.nm = s)
def kl (s : ByteArray) : Lit := .string s.data.toList
theorem kl_inj {s t : ByteArray} (h : kl s = kl t) : s = t := by
  unfold kl at h
  injection h with h
  cases s; cases t
  congr 1
  exact Array.toList_inj.1 h
theorem key_kl {s : ByteArray} (h : s.size ≤ maxLen) : keyOf Tryz.prog TS (.string s) = some (kl s) := keyOf_string_mk Tryz.underlying9 h
theorem kl_is {s : ByteArray} (h : s.size ≤ maxLen) : WideAt.IsKeyLit (kl s) := law.key (key_kl h)
/-- block m is a map from the names of these files to their blocks -/
def MP (w : World) (m : Nat) (es : List En) : Prop :=
  ∃ D : DataW Unit, w.ownsMap Tryz.prog TS ptrElem m es.length D ∧ (∀ s : ByteArray, s.size ≤ maxLen → D.atKey (kl s) .nil = rdP ((fnd es s).map En.blk)) ∧ (∀ s : ByteArray, s.size ≤ maxLen → Maps.has D (kl s) = (fnd es s).isSome) ∧ Maps.size D = es.length
theorem own_exact {w : World} {m n : Nat} {D : DataW Unit} (h : w.ownsMap Tryz.prog TS ptrElem m n D) {k : Nat} (hk : Maps.size D = k) : w.ownsMap Tryz.prog TS ptrElem m k D := by
  obtain ⟨es, clock, hb, F, hs, hD⟩ := h
  refine ⟨es, clock, hb, F, ?_, hD⟩
  rw [← hk, hD]
  simp [Maps.size, length_sorted]
theorem MP.same {w w' : World} {m : Nat} {es : List En} (h : MP w m es) (hb : w'.heap[m]? = w.heap[m]?) : MP w' m es := by
  obtain ⟨D, ⟨x, c, h1, h2⟩, hD⟩ := h
  exact ⟨D, ⟨x, c, hb.trans h1, h2⟩, hD⟩
theorem MP.lt {w : World} {m : Nat} {es : List En} (h : MP w m es) : m < w.heap.size := by
  obtain ⟨D, h1, _⟩ := h
  exact h1.lt
theorem MP.notBlk {w : World} {m : Nat} {es : List En} (h : MP w m es) {X : Nat} {T : TypeId} {cs : List Value} (hX : Blk w X T cs) : X ≠ m := by
  rintro rfl
  obtain ⟨D, ⟨x, c, h1, _⟩, _⟩ := h
  have h2 : w.heap[X]? = some (.cells cs.toArray T (0, 0)) := hX
  rw [h1] at h2
  cases h2
theorem zeroP (w : World) : (zeroValue TP).run Tryz.prog w = .ok (.pointer none) w := by kernel_rfl
theorem MP.look {w : World} {m : Nat} {es : List En} (h : MP w m es) {s : ByteArray} (hs : s.size ≤ maxLen) : (Instr.lookup TM (.map (some m)) (.string s) false).run Tryz.prog w = .ok (ptrV ((fnd es s).map En.blk)) w := by
  obtain ⟨D, h1, h2, _⟩ := h
  obtain ⟨v, ps, hr, hv⟩ := h1.lookup law Tryz.underlying102 (zeroP w) (ptrElem_mk none) (key_kl hs)
  have hv' : ptrElem v = some (D.atKey (kl s) .nil, ps) := hv
  rw [h2 s hs] at hv'
  clear hv
  have hv := hv'
  obtain ⟨x, rfl, hx⟩ := ptrElem_inv hv
  have hx' := rdP_inj (congrArg Prod.fst hx)
  rw [hr, hx']
theorem fnd_snoc {es : List En} {e : En} (h : fnd es e.nm = none) (s : ByteArray) : fnd (es ++ [e]) s = if e.nm = s then some e else fnd es s := by
  unfold fnd
  rw [List.find?_append]
  by_cases q : e.nm = s
  · rw [if_pos q]
    subst q
    have h' : es.find? (fun f => decide (f.nm = e.nm)) = none := h
    rw [h']; simp
  · rw [if_neg q]; simp [q]
def cutE (es : List En) (s : ByteArray) : List En := es.filter fun e => decide (e.nm ≠ s)
theorem fnd_cut {es : List En} {s t : ByteArray} : fnd (cutE es s) t = if t = s then none else fnd es t := by
  unfold fnd cutE
  rw [List.find?_filter]
  by_cases e : t = s
  · rw [if_pos e, List.find?_eq_none]
    intro f hf
    simp [e]
  · rw [if_neg e]
    congr 1
    funext f
    by_cases e2 : f.nm = t
    · simp [e2, e]
    · simp [e2]
theorem fnd_mem {es : List En} {s : ByteArray} {e : En} (h : fnd es s = some e) : e ∈ es ∧ e.nm = s := by
  unfold fnd at h
  exact ⟨List.mem_of_find?_eq_some h, by simpa using List.find?_some h⟩
theorem fnd_none {es : List En} {s : ByteArray} : fnd es s = none ↔ ∀ e ∈ es, e.nm ≠ s := by
  unfold fnd
  rw [List.find?_eq_none]
  simp
theorem fnd_get (es : List En) (s : ByteArray) : get (es.map En.fi) s = (fnd es s).map En.fi := by
  unfold get fnd
  rw [List.find?_map]
  rfl
theorem MP.store {w : World} {m : Nat} {es : List En} (h : MP w m es) (e : En) (hs : e.nm.size ≤ maxLen) (hn : fnd es e.nm = none) (hl : es.length < maxLen) :
    ∃ w', (Instr.mapUpdate TM (.map (some m)) (.string e.nm) (.pointer (some ⟨e.blk, 0, none⟩))).run Tryz.prog w = .ok () w' ∧ MP w' m (es ++ [e]) ∧ w.mapTurned w' m := by
  obtain ⟨D, h1, h2, h3, h4⟩ := h
  obtain ⟨w', hr, ho, ht⟩ := h1.store law Tryz.underlying102 hl (key_kl hs) (ptrElem_mk (some e.blk))
  have htd := h1.tidy law
  have hm := htd.isMap
  have hsz : Maps.size (D.put (kl e.nm) (rdP (some e.blk))) = (es ++ [e]).length := by
    rw [Maps.size_put htd, h3 _ hs, hn, h4]; simp
  refine ⟨w', hr, ⟨_, own_exact ho hsz, fun s hss => ?_, fun s hss => ?_, hsz⟩, ht⟩
  · rw [fnd_snoc hn]
    by_cases q : e.nm = s
    · rw [if_pos q, ← q, Maps.atKey_put_same hm (kl_is hs)]; rfl
    · rw [if_neg q, Maps.atKey_put_other (fun e' => q (kl_inj e').symm), h2 s hss]
  · rw [fnd_snoc hn]
    by_cases q : e.nm = s
    · rw [if_pos q, ← q, Maps.has_put_same hm (kl_is hs)]; rfl
    · rw [if_neg q, Maps.has_put_other (fun e' => q (kl_inj e').symm), h3 s hss]
theorem cut_len {es : List En} (hn : es.Pairwise fun a b => a.nm ≠ b.nm) (s : ByteArray) : (cutE es s).length + (if (fnd es s).isSome then 1 else 0) = es.length := by
  induction es with
  | nil => rfl
  | cons a r ih =>
    rw [List.pairwise_cons] at hn
    have ih := ih hn.2
    unfold cutE fnd at ih ⊢
    rw [List.filter_cons, List.find?_cons]
    by_cases e : a.nm = s
    · have : r.filter (fun f => decide (f.nm ≠ s)) = r := by
        rw [List.filter_eq_self]
        intro x hx
        have := hn.1 x hx
        rw [e] at this
        simpa using fun q : x.nm = s => this q.symm
      simp only [e, ne_eq, not_true_eq_false, decide_false, Bool.false_eq_true, if_false, decide_true, Option.isSome_some, if_true, List.length_cons]
      simp only [ne_eq] at this
      rw [this]
    · simp only [e, ne_eq, not_false_eq_true, decide_true, if_true, decide_false, List.length_cons]
      simp only [ne_eq] at ih
      omega
theorem MP.del {w : World} {m : Nat} {es : List En} (h : MP w m es) (hnd : es.Pairwise fun a b => a.nm ≠ b.nm) {s : ByteArray} (hs : s.size ≤ maxLen) (ty : TypeId) :
    ∃ w', (Builtin.delete_ #[TM, TS] ty #[.map (some m), .string s]).run Tryz.prog w = .ok (.tuple #[]) w' ∧ MP w' m (cutE es s) ∧ w.mapTurned w' m := by
  obtain ⟨D, h1, h2, h3, h4⟩ := h
  obtain ⟨w', hr, ho, ht⟩ := h1.drop law Tryz.underlying102 (key_kl hs) ty
  have htd := h1.tidy law
  have hsz : Maps.size (D.del (kl s)) = (cutE es s).length := by
    have h5 := Maps.size_del (k := kl s) htd
    have h6 := cut_len hnd s
    rw [h3 s hs, h4] at h5
    omega
  refine ⟨w', hr, ⟨_, own_exact ho hsz, fun t hts => ?_, fun t hts => ?_, hsz⟩, ht⟩
  · rw [fnd_cut]
    by_cases q : t = s
    · rw [if_pos q, q, Maps.atKey_del_same]; rfl
    · rw [if_neg q, Maps.atKey_del_other (fun e' => q (kl_inj e')), h2 t hts]
  · rw [fnd_cut]
    by_cases q : t = s
    · rw [if_pos q, q, Maps.has_del_same]; rfl
    · rw [if_neg q, Maps.has_del_other (fun e' => q (kl_inj e')), h3 t hts]
/-! ### what is left as it was -/
structure Tr (O : Nat → Prop) (w w' : World) : Prop where
  os : w'.os = w.os
  tape : w'.tape = w.tape
  output : w'.output = w.output
  size : w.heap.size ≤ w'.heap.size
  block : ∀ k, k < w.heap.size → ¬ O k → w'.heap[k]? = w.heap[k]?
theorem Tr.refl (O : Nat → Prop) (w : World) : Tr O w w := ⟨rfl, rfl, rfl, Nat.le_refl _, fun _ _ _ => rfl⟩
theorem Tr.trans {O O' : Nat → Prop} {a b c : World} (h : Tr O a b) (k : Tr O' b c) (hO : ∀ x, O' x → O x ∨ a.heap.size ≤ x) : Tr O a c :=
  ⟨k.os.trans h.os, k.tape.trans h.tape, k.output.trans h.output, Nat.le_trans h.size k.size, fun x hx hn => (k.block x (Nat.lt_of_lt_of_le hx h.size) (fun q => (hO x q).elim hn (fun q => by omega))).trans (h.block x hx hn)⟩
theorem Tr.mono {O O' : Nat → Prop} {a b : World} (h : Tr O a b) (hO : ∀ x, O x → x < a.heap.size → O' x) : Tr O' a b := ⟨h.os, h.tape, h.output, h.size, fun x hx hn => h.block x hx fun q => hn (hO x q hx)⟩
theorem Tr.alloc (O : Nat → Prop) (w : World) (o : Obj) : Tr O w (w.alloc o) := ⟨rfl, rfl, rfl, by simp, fun k hk _ => (MapKept.heap_alloc w o).2 k hk⟩
theorem Tr.drewN (O : Nat → Prop) (w : World) (n : Nat) : Tr O w (w.drewN n) := ⟨rfl, rfl, rfl, Nat.le_refl _, fun _ _ _ => rfl⟩
theorem Tr.drew (O : Nat → Prop) (w : World) : Tr O w w.drew := ⟨rfl, rfl, rfl, Nat.le_refl _, fun _ _ _ => rfl⟩
theorem Tr.set {O : Nat → Prop} {w : World} {p : Addr} (hp : O p.block) (u : Value) : Tr O w (w.setCell p u) := by
  refine ⟨rfl, rfl, rfl, by simp [World.setCell], fun k hk hn => ?_⟩
  show (w.heap.modify p.block _)[k]? = _
  rw [Array.getElem?_modify, if_neg (fun e => hn (by rw [← e]; exact hp))]
theorem Tr.grown {O : Nat → Prop} {w w' : World} {row : Option Nat} (h : w.grownBy w' row) (hr : ∀ k, row = some k → O k) : Tr O w w' := ⟨h.os, h.tape, h.output, h.size, fun k hk hn => h.block k hk fun q => hn (hr k q.symm)⟩
theorem Tr.turned {O : Nat → Prop} {w w' : World} {m : Nat} (h : w.mapTurned w' m) (hm : O m) : Tr O w w' := Tr.grown h.grown fun k e => by injection e with e; rw [← e]; exact hm
theorem Tr.below {O : Nat → Prop} {w w' : World} {B : Nat} (h : Tr O w w') (hO : ∀ k, O k → B ≤ k) (hB : B ≤ w.heap.size) : Below B w w' := ⟨h.os, h.tape, h.output, h.size, fun k hk => h.block k (by omega) fun q => by have := hO k q; omega⟩
/-! ### the disk -/
def cells (S : Ds) (m : Nat) : List Value := [.int .i64 (S.cap : Int), .int .i64 (S.used : Int), .map (some m), .int .i64 (S.acts : Int), .bool S.down, .int .i64 (S.fail : Int), .int .i64 (S.brk : Int), .bool S.done]
structure DKm (w : World) (d m : Nat) (es : List En) (O : Nat → Prop) (S : Ds) : Prop where
  fs : S.fs = es.map En.fi
  box : Blk w d TD (cells S m)
  map : MP w m es
  file : ∀ e ∈ es, Blk w e.blk TF [e.val, .int .i64 (e.las : Int)] ∧ JB w 0 e.val e.dat
  apart : es.Pairwise fun a b => a.blk ≠ b.blk ∧ ∀ g, a.val.ownBlock = some g → b.val.ownBlock ≠ some g
  own : O d ∧ O m ∧ ∀ e ∈ es, O e.blk ∧ ∀ g, e.val.ownBlock = some g → O g
  olt : ∀ b, O b → b < w.heap.size
  good : Good S
def DK (w : World) (d : Nat) (O : Nat → Prop) (S : Ds) : Prop := ∃ m es, DKm w d m es O S
/-- all own blocks are as they were -/
theorem DKm.keep {w w' : World} {d m : Nat} {es : List En} {O : Nat → Prop} {S : Ds} (h : DKm w d m es O S) (hb : ∀ b, O b → w'.heap[b]? = w.heap[b]?) (hs : w.heap.size ≤ w'.heap.size) : DKm w' d m es O S := by
  refine ⟨h.fs, (hb d h.own.1).trans h.box, h.map.same (hb m h.own.2.1), fun e he => ⟨(hb _ (h.own.2.2 e he).1).trans (h.file e he).1, ?_⟩, h.apart, h.own, fun b q => Nat.lt_of_lt_of_le (h.olt b q) hs, h.good⟩
  obtain ⟨h0, h1, ⟨h2, h3⟩ | ⟨g, cap, cur, h2, h3, h4, h5⟩⟩ := (h.file e he).2
  · exact ⟨h0, h1, .inl ⟨h2, h3⟩⟩
  · exact ⟨h0, h1, .inr ⟨g, cap, cur, h2, h3, (hb g ((h.own.2.2 e he).2 g (by rw [h2]; rfl))).trans h4, h5⟩⟩
theorem DK.keep {w w' : World} {d : Nat} {O : Nat → Prop} {S : Ds} (h : DK w d O S) (hb : ∀ b, O b → w'.heap[b]? = w.heap[b]?) (hs : w.heap.size ≤ w'.heap.size) : DK w' d O S := by
  obtain ⟨m, es, h⟩ := h
  exact ⟨m, es, h.keep hb hs⟩
theorem DK.olt {w : World} {d : Nat} {O : Nat → Prop} {S : Ds} (h : DK w d O S) : ∀ b, O b → b < w.heap.size := by obtain ⟨_, _, h⟩ := h; exact h.olt
theorem DK.good {w : World} {d : Nat} {O : Nat → Prop} {S : Ds} (h : DK w d O S) : Good S := by obtain ⟨_, _, h⟩ := h; exact h.good
/-- what others do does not touch it -/
theorem DK.aside {w w' : World} {d : Nat} {O O2 : Nat → Prop} {S : Ds} (h : DK w d O S) (ht : Tr O2 w w') (ha : ∀ b, O b → ¬ O2 b) : DK w' d O S := h.keep (fun b q => ht.block b (h.olt b q) (ha b q)) ht.size
theorem DKm.aside {w w' : World} {d m : Nat} {es : List En} {O O2 : Nat → Prop} {S : Ds} (h : DKm w d m es O S) (ht : Tr O2 w w') (ha : ∀ b, O b → ¬ O2 b) : DKm w' d m es O S := h.keep (fun b q => ht.block b (h.olt b q) (ha b q)) ht.size
/-- what a call leaves -/
def Nx (O : Nat → Prop) (w : World) (d : Nat) (S : Ds) (w' : World) : Prop := ∃ O', DK w' d O' S ∧ Tr O w w' ∧ ∀ b, O' b → O b ∨ w.heap.size ≤ b
theorem Nx.same {O : Nat → Prop} {w : World} {d : Nat} {S : Ds} (h : DK w d O S) : Nx O w d S w := ⟨O, h, Tr.refl O w, fun _ q => .inl q⟩
theorem blk_set_other {w : World} {X : Nat} {T : TypeId} {cs : List Value} (h : Blk w X T cs) {p : Addr} (hp : p.block ≠ X) (u : Value) : Blk (w.setCell p u) X T cs := h.other hp u
end Dk
end Go.Proofs.YtngnbkdfbmhndaaGreat
namespace Go.Proofs.YtngnbkdfbmhndaaGreat
open Go.RowKit Go.Maps
namespace Dk
open Vt
set_option maxRecDepth 100000 in
theorem isName_is (s : ByteArray) (w : World) : Calls Tryz.prog 48 #[.string s] w fun e w' => e = .returned (.bool (isNm s)) ∧ w' = w := by
  rcases Nat.lt_or_ge s.size 1 with h | h
  · have HN : Hid (isNm s = false) := by show isNm s = false; unfold isNm; simp; omega
    rw [HN.out]
    go_enter Tryz.func48, Tryz.ntmps48
    go_wp2
    go_ret
    exact ⟨rfl, rfl⟩
  · have HN : Hid (isNm s = decide ((s.size : Int) ≤ 60)) := by
      show isNm s = _
      unfold isNm
      rw [decide_eq_true h, Bool.true_and, decide_eq_decide]; omega
    rw [HN.out]
    go_enter Tryz.func48, Tryz.ntmps48
    go_wp2
    go_ret
    exact ⟨rfl, rfl⟩
set_option maxRecDepth 100000 in
theorem bar_is (w : World) (d : Nat) (O : Nat → Prop) (S : Ds) (b : Bool) (h : DK w d O S) : Calls Tryz.prog 87 #[.pointer (some ⟨d, 0, none⟩), .bool b] w fun e w' => e = .returned (.int .i64 (bar S b : Int)) ∧ w' = w := by
  obtain ⟨m, es, h⟩ := h
  have c4 := h.box.cell 4 _ rfl
  clear h
  unfold bar
  cases hd : S.down <;> cases b <;> rw [hd] at c4
  · go_enter Tryz.func87, Tryz.ntmps87
    go_wp2
    go_ret
    exact ⟨rfl, rfl⟩
  · go_enter Tryz.func87, Tryz.ntmps87
    go_wp2
    go_ret
    exact ⟨rfl, rfl⟩
  · go_enter Tryz.func87, Tryz.ntmps87
    go_wp2
    go_ret
    exact ⟨rfl, rfl⟩
  · go_enter Tryz.func87, Tryz.ntmps87
    go_wp2
    go_ret
    exact ⟨rfl, rfl⟩
theorem isNm_len {s : ByteArray} (h : isNm s = true) : s.size ≤ maxLen := by
  unfold isNm at h
  simp at h
  unfold maxLen
  omega
/-- what find answers -/
def fans (es : List En) (S : Ds) (s : ByteArray) (b : Bool) : Value := .tuple #[ptrV (if look S s b = 0 then (fnd es s).map En.blk else none), .int .i64 (look S s b : Int)]
theorem fans_no {es : List En} {S : Ds} {s : ByteArray} {b : Bool} {r : Nat} (h : bar S (isNm s && b) = r) (hr : r ≠ 0) : fans es S s b = .tuple #[.pointer none, .int .i64 (r : Int)] := by
  unfold fans look
  rw [h, if_pos hr, if_neg hr]; rfl
theorem fans_in {es : List En} {S : Ds} {s : ByteArray} {b : Bool} (hf : S.fs = es.map En.fi) (h : bar S (isNm s && b) = 0) : fans es S s b = match fnd es s with | none => .tuple #[.pointer none, .int .i64 71] | some e => .tuple #[.pointer (some ⟨e.blk, 0, none⟩), .int .i64 0] := by
  unfold fans look
  rw [h, hf, fnd_get]
  simp only [ne_eq, not_true_eq_false, if_false]
  cases fnd es s <;> rfl
set_option maxRecDepth 100000 in
theorem find_is (w : World) (d m : Nat) (es : List En) (O : Nat → Prop) (S : Ds) (s : ByteArray) (b : Bool) (h : DKm w d m es O S) : Calls Tryz.prog 64 #[.pointer (some ⟨d, 0, none⟩), .string s, .bool b] w fun e w' => e = .returned (fans es S s b) ∧ w' = w := by
  have H := hd h
  have c2 := h.box.cell 2 _ rfl
  clear h
  obtain ⟨r, hr⟩ : ∃ r, bar S (isNm s && b) = r := ⟨_, rfl⟩
  have HR := hd hr
  have hB := hd (bar_is w d O S (isNm s && b) ⟨m, es, H.out⟩)
  rw [hr] at hB
  clear hr
  have hI := hd (isName_is s w)
  by_cases h0 : r = 0
  · subst h0
    have HF := hd (fans_in H.out.fs HR.out)
    have hs : isNm s = true := by
      have := HR.out
      unfold bar at this
      cases h1 : isNm s
      · rw [h1] at this
        cases hd : S.down <;> rw [hd] at this <;> simp at this
      · rfl
    have hl := H.out.map.look (isNm_len hs)
    rw [hs] at hB hI HR
    simp only [Bool.true_and] at hB
    cases hf : fnd es s with
    | none =>
      rw [hf] at hl HF
      simp only [Option.map_none, ptrV] at hl
      rw [HF.out]
      clear HF hf
      go_enter Tryz.func64, Tryz.ntmps64
      go_wp2_with fail
      refine Calls.mono hI.out ?_
      rintro e w1 ⟨rfl, rfl⟩
      go_wp2_with fail
      refine Calls.mono hB.out ?_
      rintro e w1 ⟨rfl, rfl⟩
      go_wp2_with fail
      go_ret2
      exact ⟨rfl, rfl⟩
    | some e =>
      rw [hf] at hl HF
      simp only [Option.map_some, ptrV] at hl
      rw [HF.out]
      clear HF hf
      go_enter Tryz.func64, Tryz.ntmps64
      go_wp2_with fail
      refine Calls.mono hI.out ?_
      rintro e w1 ⟨rfl, rfl⟩
      go_wp2_with fail
      refine Calls.mono hB.out ?_
      rintro e w1 ⟨rfl, rfl⟩
      go_wp2_with fail
      go_ret2
      exact ⟨rfl, rfl⟩
  · have HF := hd (fans_no (es := es) HR.out h0)
    rw [HF.out]
    have h0' : ¬ ((r : Int) = 0) := by omega
    cases hs : isNm s
    · rw [hs] at hB hI
      simp only [Bool.false_and] at hB
      go_enter Tryz.func64, Tryz.ntmps64
      go_wp2_with fail
      refine Calls.mono hI.out ?_
      rintro e w1 ⟨rfl, rfl⟩
      go_wp2_with fail
      refine Calls.mono hB.out ?_
      rintro e w1 ⟨rfl, rfl⟩
      go_wp2_with fail
      go_ret2
      exact ⟨rfl, rfl⟩
    · rw [hs] at hB hI
      simp only [Bool.true_and] at hB
      go_enter Tryz.func64, Tryz.ntmps64
      go_wp2_with fail
      refine Calls.mono hI.out ?_
      rintro e w1 ⟨rfl, rfl⟩
      go_wp2_with fail
      refine Calls.mono hB.out ?_
      rintro e w1 ⟨rfl, rfl⟩
      go_wp2_with fail
      go_ret2
      exact ⟨rfl, rfl⟩
set_option maxRecDepth 100000 in
theorem due_is (w : World) (d j n : Nat) (hc : w.cell? ⟨d, j, none⟩ = some (.int .i64 (n : Int))) (hf : w.frozen? ⟨d, j, none⟩ = false) (hn : n < 9223372036854775808) : Calls Tryz.prog 93 #[.pointer (some ⟨d, j, none⟩)] w fun e w' => e = .returned (.bool (decide (n = 1))) ∧ w' = if n = 0 then w else w.setCell ⟨d, j, none⟩ (.int .i64 ((n - 1 : Nat) : Int)) := by
  by_cases h0 : n = 0
  · subst h0
    simp only [if_true]
    go_enter Tryz.func93, Tryz.ntmps93
    go_wp2
    go_ret
    exact ⟨rfl, rfl⟩
  · rw [if_neg h0]
    have e1 : ((n : Int) - 1) = ((n - 1 : Nat) : Int) := by omega
    have e2 : decide (n = 1) = decide (((n - 1 : Nat) : Int) = 0) := by rw [decide_eq_decide]; omega
    rw [e2, ← e1]
    clear e1 e2
    go_enter Tryz.func93, Tryz.ntmps93
    go_wp2
    go_ret
    exact ⟨rfl, rfl⟩
end Dk
end Go.Proofs.YtngnbkdfbmhndaaGreat
namespace Go.Proofs.YtngnbkdfbmhndaaGreat
open Go Go.RowKit

theorem ready_spec {md : Region.Mode} {ops : Array Oper} {L : Array Bool} {i : Nat} (h : i ∈ Region.ready md ops L) :
    ∃ o, ops[i]? = some o ∧ i < ops.size ∧ L.getD i true = false ∧ ∀ e ∈ o.after, Region.binds md e = true → L.getD e.on false = true := by
  unfold Region.ready at h
  obtain ⟨h1, h2⟩ := List.mem_filter.1 h
  have hi : i < ops.size := by simpa using h1
  have ho : ops[i]? = some ops[i] := Array.getElem?_eq_getElem hi
  rw [ho] at h2
  simp only [Option.map_some, Option.getD_some, Bool.and_eq_true, Bool.not_eq_eq_eq_not, Bool.not_true, Array.all_eq_true'] at h2
  refine ⟨ops[i], ho, hi, h2.1, fun e he hb => ?_⟩
  have := h2.2 e he
  rw [hb] at this
  simpa using this
theorem ready_nil {md : Region.Mode} {ops : Array Oper} {L : Array Bool} (h : ∀ i, i < ops.size → L.getD i true = true) : Region.ready md ops L = [] := by
  unfold Region.ready
  rw [List.filter_eq_nil_iff]
  intro i hi
  rw [h i (by simpa using hi)]
  simp
/-- how many are not yet listed -/
def left (L : Array Bool) : Nat := L.toList.countP (fun b => !b)
theorem left_set {L : Array Bool} {i : Nat} (h : L.getD i true = false) : left (L.setIfInBounds i true) + 1 = left L := by
  have hi : i < L.size := by
    rcases Nat.lt_or_ge i L.size with h' | h'
    · exact h'
    · rw [Array.getD_eq_getD_getElem?, Array.getElem?_eq_none h'] at h; simp at h
  have hv : L.toList[i]'(by simpa using hi) = false := by
    rw [Array.getD_eq_getD_getElem?, Array.getElem?_eq_getElem hi] at h
    simpa using h
  unfold left
  rw [Array.toList_setIfInBounds, List.countP_set (by simpa using hi), hv]
  have hpos : 0 < L.toList.countP (fun b => !b) := List.countP_pos_iff.2 ⟨false, by rw [← hv]; exact List.getElem_mem _, rfl⟩
  rw [if_pos (by decide), if_neg (by decide)]
  omega
theorem left_zero {L : Array Bool} (h : left L = 0) (i : Nat) (hi : i < L.size) : L.getD i true = true := by
  unfold left at h
  rw [List.countP_eq_zero] at h
  have := h L[i] (by simp)
  rw [Array.getD_eq_getD_getElem?, Array.getElem?_eq_getElem hi]
  simpa using this
theorem wpAny_inv {P : Program} {md : Region.Mode} {ops : Array Oper} {Q : Exit → Act → World → Prop} (I : Array Bool → Act → World → Prop)
    (hsz : ∀ L a w, I L a w → L.size = ops.size)
    (hstep : ∀ L a w i, I L a w → i ∈ Region.ready md ops L → wpOp P ops Q i (fun a' w' => I (L.setIfInBounds i true) a' w') a w)
    (hdone : ∀ L a w, I L a w → Region.ready md ops L = [] → Q .normal a w) :
    ∀ fuel L a w, I L a w → left L ≤ fuel → wpAny P md ops Q fuel L a w := by
  intro fuel
  induction fuel with
  | zero =>
    intro L a w h hl
    have hr : Region.ready md ops L = [] := ready_nil fun i hi => left_zero (by omega) i (by rw [hsz L a w h]; exact hi)
    exact ⟨hr, hdone L a w h hr⟩
  | succ fuel ih =>
    intro L a w h hl
    refine ⟨fun hr => hdone L a w h hr, fun i hi => ?_⟩
    obtain ⟨o, ho, hlt, hL, _⟩ := ready_spec hi
    have := left_set hL
    exact wpOp_mono (fun a' w' h' => ih _ a' w' h' (by omega)) (hstep L a w i h hi)

/-- each operation's forerunners stand ahead of it -/
def aftersAhead (ops : Array Oper) : Bool := (List.range ops.size).all fun i => ((ops[i]?).map fun o => o.after.all fun e => decide (e.on < i)).getD true
theorem all_listed {md : Region.Mode} {ops : Array Oper} {L : Array Bool} (h : aftersAhead ops = true) (hs : L.size = ops.size) (hr : Region.ready md ops L = []) : ∀ i, i < ops.size → L.getD i false = true := by
  intro i
  induction i using Nat.strongRecOn with
  | _ i ih =>
    intro hi
    refine Classical.byContradiction fun hn => ?_
    have hL : L.getD i true = false := by
      rw [Array.getD_eq_getD_getElem?, Array.getElem?_eq_getElem (by omega)] at hn ⊢
      simpa using hn
    have ho : ops[i]? = some ops[i] := Array.getElem?_eq_getElem hi
    have hmem : i ∈ Region.ready md ops L := by
      unfold Region.ready
      refine List.mem_filter.2 ⟨by simpa using hi, ?_⟩
      rw [hL, ho]
      simp only [Option.map_some, Option.getD_some, Bool.not_false, Bool.true_and, Array.all_eq_true']
      intro e he
      have hlt : e.on < i := by
        unfold aftersAhead at h
        have := List.all_eq_true.1 h i (by simpa using hi)
        rw [ho] at this
        simp only [Option.map_some, Option.getD_some, Array.all_eq_true', decide_eq_true_eq] at this
        exact this e he
      rw [ih e.on hlt (by omega)]
      simp
    rw [hr] at hmem
    simp at hmem
/-- where an operation writes -/
def dstOf (ops : Array Oper) (i : Nat) : Option Nat := (ops[i]?).bind (·.dst)
def dstsApart (ops : Array Oper) (n : Nat) : Bool :=
  (List.range ops.size).all fun i => match dstOf ops i with
    | none => false
    | some d => decide (d < n) && (List.range ops.size).all fun j => decide (i = j) || !(dstOf ops j == some d)
theorem dsts_spec {ops : Array Oper} {n : Nat} (h : dstsApart ops n = true) {i : Nat} (hi : i < ops.size) : ∃ d, dstOf ops i = some d ∧ d < n ∧ ∀ j, j < ops.size → j ≠ i → dstOf ops j ≠ some d := by
  unfold dstsApart at h
  have := List.all_eq_true.1 h i (by simpa using hi)
  split at this
  · simp at this
  · rename_i d hd
    simp only [Bool.and_eq_true, decide_eq_true_eq, List.all_eq_true, List.mem_range, Bool.or_eq_true, Bool.not_eq_eq_eq_not, Bool.not_true, beq_eq_false_iff_ne] at this
    refine ⟨d, hd, this.1, fun j hj hne => ?_⟩
    rcases this.2 j hj with h' | h'
    · exact absurd h'.symm hne
    · exact h'
def notDst (ops : Array Oper) (k : Nat) : Bool := (List.range ops.size).all fun j => !(dstOf ops j == some k)
theorem notDst_spec {ops : Array Oper} {k : Nat} (h : notDst ops k = true) : ∀ j, j < ops.size → dstOf ops j ≠ some k := by
  intro j hj
  have := List.all_eq_true.1 h j (by simpa using hj)
  simpa using this
theorem yielded_of {ops : Array Oper} {a : Act} {j d : Nat} {b : Bool} (hd : dstOf ops j = some d) (hs : d < a.tmps.size) (hv : a.tmps.getD d undef = .bool b) : yielded ops a.tmps j = some b := by
  unfold yielded
  unfold dstOf at hd
  rw [hd, Option.bind_some]
  rw [Array.getD_eq_getD_getElem?, Array.getElem?_eq_getElem hs] at hv
  rw [Array.getElem?_eq_getElem hs]
  simp only [Option.getD_some] at hv
  rw [hv]
/-- the slot that operation i has filled -/
def slotOf (ops : Array Oper) (a : Act) (i : Nat) : Value := a.tmps.getD ((dstOf ops i).getD 0) undef
theorem getD_put (a : Act) (d k : Nat) (v : Value) (hd : d < a.tmps.size) : (a.put (some d) v).tmps.getD k undef = if k = d then v else a.tmps.getD k undef := by
  simp only [Act.put, Array.getD_eq_getD_getElem?, Array.getElem?_setIfInBounds]
  by_cases h : k = d
  · subst h; simp [hd]
  · rw [if_neg (by omega), if_neg h]

theorem getq {a : Act} {k : Nat} {v : Value} (h : a.tmps.getD k undef = v) : a.tmps[k]?.getD undef = v := by rwa [Array.getD_eq_getD_getElem?] at h
/-- an operation that is wanted and yields something good -/
theorem step_good {P : Program} {o : Oper} {a : Act} {w : World} {Q : Exit → Act → World → Prop} {ops : Array Oper} (good : Value → World → Prop) (hw : Region.wanted o (yielded ops a.tmps) = true)
    (h : ∀ K : Act → World → Prop, (∀ v w', good v w' → K (a.put o.dst v) w') → o.wp P a w K Q) :
    if Region.wanted o (yielded ops a.tmps) then o.wp P a w (fun a' w' => ∃ v, a' = a.put o.dst v ∧ good v w') Q else False := by
  rw [if_pos hw]
  exact h _ (fun v w' hg => ⟨v, rfl, hg⟩)
theorem wanted_none {o : Oper} {f : Nat → Option Bool} (h : o.guard = none) : Region.wanted o f = true := by
  unfold Region.wanted; rw [h]
theorem wanted_some {o : Oper} {f : Nat → Option Bool} {j : Nat} {b : Bool} (h : o.guard = some (j, b)) (hf : f j = some b) : Region.wanted o f = true := by
  unfold Region.wanted; rw [h]; simp [hf]
/-- THE REGION BY AN INVARIANT. 'G i v w': what operation i has yielded, v, is good in the world w; it stays so while the world grows ('W', 'stable'); each operation, its forerunners' yields being good, yields something good ('step'). -/
theorem region_inv {P : Program} {id : Nat} {ops : Array Oper} {Q : Exit → Act → World → Prop} {a0 : Act} {w0 : World} (G : Nat → Value → World → Prop) (W : World → Prop)
    (hm : P.follows .mixedOrders = true) (hd : dstsApart ops a0.tmps.size = true) (hah : aftersAhead ops = true) (hW0 : W w0.drew)
    (stable : ∀ i v w w', W w → W w' → Below w.heap.size w w' → G i v w → G i v w')
    (step : ∀ i o, ops[i]? = some o → ∀ a w, W w → a.defers = a0.defers → a.tmps.size = a0.tmps.size →
      (∀ k, (∀ j, j < ops.size → dstOf ops j ≠ some k) → a.tmps.getD k undef = a0.tmps.getD k undef) →
      (∀ e ∈ o.after, Region.binds .any e = true → G e.on (slotOf ops a e.on) w) →
      (if Region.wanted o (yielded ops a.tmps) then o.wp P a w (fun a' w' => ∃ v, a' = a.put o.dst v ∧ Below w.heap.size w w' ∧ W w' ∧ G i v w') Q else False))
    (done : ∀ a w, W w → a.defers = a0.defers → a.tmps.size = a0.tmps.size →
      (∀ k, (∀ j, j < ops.size → dstOf ops j ≠ some k) → a.tmps.getD k undef = a0.tmps.getD k undef) →
      (∀ i, i < ops.size → G i (slotOf ops a i) w) → Q .normal a w) :
    (Code.region id ops true).wp P Q a0 w0 := by
  refine wp_region_any hm ?_
  refine wpAny_inv (fun L a w => L.size = ops.size ∧ W w ∧ a.defers = a0.defers ∧ a.tmps.size = a0.tmps.size ∧
      (∀ k, (∀ j, j < ops.size → dstOf ops j ≠ some k) → a.tmps.getD k undef = a0.tmps.getD k undef) ∧
      (∀ i, i < ops.size → L.getD i false = true → G i (slotOf ops a i) w)) (fun L a w h => h.1) ?_ ?_ _ _ _ _ ?_ ?_
  · rintro L a w i ⟨h1, h2, h3, h4, h5, h6⟩ hi
    obtain ⟨o, ho, hlt, hL, haf⟩ := ready_spec hi
    obtain ⟨d, hdi, hdn, hdj⟩ := dsts_spec hd hlt
    have hod : o.dst = some d := by simpa [dstOf, ho] using hdi
    have hst := step i o ho a w h2 h3 h4 h5 (fun e he hb => h6 e.on (by
      have := haf e he hb
      rcases Nat.lt_or_ge e.on ops.size with h' | h'
      · exact h'
      · rw [Array.getD_eq_getD_getElem?, Array.getElem?_eq_none (by omega)] at this; simp at this) (haf e he hb))
    unfold wpOp
    rw [ho]
    split at hst
    · rename_i hw
      simp only [hw, if_true]
      refine .inl (Oper.wp_mono ?_ hst)
      rintro a' w' ⟨v, rfl, hb, hW', hG⟩
      have hda : d < a.tmps.size := by omega
      rw [hod]
      refine ⟨by rw [Array.size_setIfInBounds]; exact h1, hW', by simp only [Act.put]; exact h3, by simp only [Act.put, Array.size_setIfInBounds]; exact h4, ?_, ?_⟩
      · intro k hk
        rw [getD_put _ _ _ _ hda, if_neg (fun e => hk i hlt (by rw [e]; exact hdi))]
        exact h5 k hk
      · intro j hj hLj
        by_cases e : j = i
        · subst e
          unfold slotOf
          rw [hdi, Option.getD_some, getD_put _ _ _ _ hda, if_pos rfl]
          exact hG
        · obtain ⟨dj, hdj1, hdj2, hdj3⟩ := dsts_spec hd hj
          have hne : dj ≠ d := fun e2 => hdj j hj e (by rw [← e2]; exact hdj1)
          unfold slotOf
          rw [hdj1, Option.getD_some, getD_put _ _ _ _ hda, if_neg hne]
          have hLj' : L.getD j false = true := by
            rw [Array.getD_eq_getD_getElem?, Array.getElem?_setIfInBounds_ne (by omega)] at hLj
            rw [Array.getD_eq_getD_getElem?]; exact hLj
          have := h6 j hj hLj'
          unfold slotOf at this
          rw [hdj1, Option.getD_some] at this
          exact stable j _ w w' h2 hW' hb this
    · exact hst.elim
  · rintro L a w ⟨h1, h2, h3, h4, h5, h6⟩ hr
    exact done a w h2 h3 h4 h5 fun i hi => h6 i hi (all_listed hah h1 hr i hi)
  · refine ⟨by simp, hW0, rfl, rfl, fun _ _ => rfl, fun i hi h => ?_⟩
    rw [Array.getD_eq_getD_getElem?, Array.getElem?_replicate] at h
    simp [hi] at h
  · unfold left
    exact Nat.le_trans (List.countP_le_length) (by simp)
end Go.Proofs.YtngnbkdfbmhndaaGreat
