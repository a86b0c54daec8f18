/-
  'append(own, x...)' AS A LAW FOR THE WALK: own: a list of bytes of the call's own (nil too); x: any slice of bytes (nil, empty too).
  ROWS OF INTEGERS OF THE CALL'S OWN, of any kind ('JK'): 'append' as a law for the walk; whole blocks of cells ('Blk').
  A DISK IN MEMORY: a struct, a map from names to pointers, a struct and a row of bytes for each file; which blocks are its own; what a call leaves of all others.
  THE WALKS OF isName, (*Disk).bar, (*Disk).find, due.
-/
import Derived.Test.YtolddolfpnkndaaGreatXuaa
import Derived.Maps.OwnSet
import Derived.Maps.RangeWalk
namespace Go.Proofs.YtolddolfpnkndaaGreat
open Go.RowKit
namespace Vt
theorem JB.shape {w : World} {base : Nat} {v : Value} {l : List Nat} (h : JB w base v l) : ∃ a c, v = .slice a l.length c ∧ l.length ≤ c := by
  rcases h.2.2 with ⟨rfl, e⟩ | ⟨g, cap, cur, rfl, _, _, hl, _⟩
  · exact ⟨none, 0, by rw [e], by omega⟩
  · exact ⟨_, cap, rfl, hl⟩
theorem JB.lt {w : World} {base g n cap : Nat} {l : List Nat} (h : JB w base (.slice (some ⟨g, 0, none⟩) n cap) l) : g < w.heap.size ∧ base ≤ g := by
  rcases h.2.2 with ⟨h, _⟩ | ⟨g', cap', cur, h, hb, hh, _⟩
  · cases h
  · injection h with h1 h2 h3
    injection h1 with h1
    injection h1 with h1
    subst h1
    exact ⟨(Array.getElem?_eq_some_iff.1 hh).1, hb⟩
/-- what is below stays -/
theorem JB.keep {w w' : World} {base k : Nat} {v : Value} {l : List Nat} (h : JB w base v l) (hk : ∀ g, v.ownBlock = some g → g < k) (hb : Below k w w') : JB w' base v l := by
  obtain ⟨h1, h0, ⟨rfl, e⟩ | ⟨g', cap', cur, rfl, hbs, hh, hr⟩⟩ := h
  · exact ⟨h1, h0, .inl ⟨rfl, e⟩⟩
  · refine ⟨h1, h0, .inr ⟨g', cap', cur, rfl, hbs, ?_, hr⟩⟩
    rw [hb.block g' (hk g' rfl)]; exact hh
theorem JB.keepAll {w w' : World} {base : Nat} {v : Value} {l : List Nat} (h : JB w base v l) (hb : Below w.heap.size w w') : JB w' base v l := by
  refine h.keep (fun g hg => ?_) hb
  obtain ⟨_, _, ⟨rfl, e⟩ | ⟨g', cap', cur, rfl, hbs, hh, hr⟩⟩ := h
  · cases hg
  · cases hg
    exact (Array.getElem?_eq_some_iff.1 hh).1
theorem run_append_jb (ty : TypeId) (w : World) (base : Nat) (v u : Value) (l r : List Nat) (hJ : JB w base v l) (hI : IsB w u r) (hb : l.length + r.length ≤ 140737488355328) (hbase : base ≤ w.heap.size) :
    ∃ a' cap w', (Builtin.append_ #[49, 49] ty #[v, u]).run Tryz.prog w = .ok (.slice a' (l.length + r.length) cap) w' ∧ JB w' base (.slice a' (l.length + r.length) cap) (l ++ r) ∧ w.grownBy w' v.ownBlock := by
  obtain ⟨i0, hi, hz0, hz1, hz2⟩ := info_parts info_u8
  by_cases h0 : r.length = 0
  · obtain rfl : r = [] := List.length_eq_zero_iff.1 h0
    obtain ⟨a, c, rfl⟩ := hI.shape
    obtain ⟨a', c', rfl, hlc⟩ := hJ.shape
    refine ⟨a', c', w, ?_, ?_, World.grownBy.refl _ _⟩
    · cases a <;> cases a' <;> simp [Builtin.append_, run_underlying Tryz.underlying49, sizeOf, typeInfo, hi, hlc, Builtin.lenOf, Builtin.firstCells, storeCells, loadCells, loadCellsFrom]
    · simpa using hJ
  · obtain ⟨hbl, hml, ⟨rfl, _⟩ | ⟨bb, oo, cc, rfl, hlc, hcm, hbb, hrow⟩⟩ := hI
    · simp at h0
    · have hlen : (bs r).length = r.length * 1 := by simp [bs]
      obtain ⟨g, cap, w', hr, h2, h3, _, _⟩ := run_append_lies (P := Tryz.prog) w 49 ty base 5 i0 (.int .u8 0) 1 1 Tryz.underlying49 hi hz0 hz1 hz2 rfl (by decide) v l.length (bs l) hJ.2 ⟨bb, oo, none⟩ r.length cc (bs r) hlen (news_of_row hrow) (bs_one r) (by omega) (by unfold maxLen; omega) (by omega) hbase w.heap.size rfl
      refine ⟨_, cap, w', hr, ⟨byt_app hJ.1 hbl, ?_⟩, h3⟩
      rw [bs_app] at h2
      rw [List.length_append]; exact h2
/-- .. for the walk: k: the new length, R: the new list -/
theorem wpList_append_jb (w : World) {ops : Array Oper} {rest : List Oper} {o : Oper} {a : Act} {Q : Exit → Act → World → Prop} (hgd : o.guard = none) (s x : Operand)
    (ho : o.op = .call { callee := .builtin .append, args := #[s, x], argTypes := #[49, 49] })
    (base : Nat) (v u : Value) (l r : List Nat) (hs : a.eval s = v) (hx : a.eval x = u) (hJ : JB w base v l) (hI : IsB w u r) (k : Nat) (hk : l.length + r.length = k) (R : List Nat) (hR : l ++ r = R) (hb : k ≤ 140737488355328) (hbase : base ≤ w.heap.size)
    (h : ∀ a' cap w', JB w' base (.slice a' k cap) R → w.grownBy w' v.ownBlock → k ≤ cap → wpList Tryz.prog ops Q rest (a.put o.dst (.slice a' k cap)) w') : wpList Tryz.prog ops Q (o :: rest) a w := by
  subst hk hR
  refine wpList_plain hgd fun K hK => ?_
  obtain ⟨a', cap, w', hr, h2, h3⟩ := run_append_jb o.type w base v u l r hJ hI hb hbase
  unfold Oper.wp execOp
  simp only [ho, resolve, invoke, builtin, Sem.run_bind, Sem.run_pure, Result.andThen_ok, List.map_toArray, List.map_cons, List.map_nil, hs, hx, hr]
  refine hK _ _ (h a' cap w' h2 h3 ?_)
  obtain ⟨a2, c2, e, hle⟩ := h2.shape
  injection e with e1 e2 e3
  rw [List.length_append] at hle
  omega
/-- what grew leaves all below as it was, where the row is the call's own -/
theorem JB.grown {w w' : World} {base : Nat} {v : Value} {l : List Nat} {n : Nat} {w0 : World} (hJ : JB w base v l) (hb : Below n w0 w) (hn : n ≤ base) (hn2 : n ≤ w.heap.size) (hg : w.grownBy w' v.ownBlock) : Below n w0 w' := by
  refine hb.grown hg hn2 fun k hk => ?_
  obtain ⟨_, _, ⟨rfl, e⟩ | ⟨g', cap', cur, rfl, hbs, hh, hr⟩⟩ := hJ
  · cases hk
  · cases hk
    exact Nat.le_trans hn hbs
/-- a slice elsewhere reads as it did, where a row of the call's own has grown -/
theorem IsK.grown {k : IntKind} {M : Nat} {w w' : World} {row : Option Nat} {v : Value} {l : List Nat} (h : IsK k M w v l) (hg : w.grownBy w' row) (hne : ∀ b off n c, v = .slice (some ⟨b, off, none⟩) n c → some b ≠ row) : IsK k M w' v l := by
  obtain ⟨h1, h2, ⟨rfl, a, c, rfl⟩ | ⟨b, off, c, rfl, h3, h4, h5, h6⟩⟩ := h
  · exact ⟨h1, h2, .inl ⟨rfl, a, c, rfl⟩⟩
  · refine ⟨h1, h2, .inr ⟨b, off, c, rfl, h3, h4, Nat.lt_of_lt_of_le h5 hg.size, fun j hj => ?_⟩⟩
    rw [World.cell?_of_block (a := ⟨b, off + j, none⟩) (hg.block b h5 (hne _ _ _ _ rfl))]; exact h6 j hj
theorem JB.blk_lt {w : World} {base : Nat} {v : Value} {l : List Nat} (h : JB w base v l) : ∀ g, v.ownBlock = some g → g < w.heap.size := by
  intro g hg
  obtain ⟨_, _, ⟨rfl, e⟩ | ⟨g', cap', cur, rfl, hbs, hh, hr⟩⟩ := h
  · cases hg
  · cases hg
    exact (Array.getElem?_eq_some_iff.1 hh).1
theorem JB.blk_ge {w : World} {base : Nat} {v : Value} {l : List Nat} (h : JB w base v l) : ∀ b off n c, v = .slice (some ⟨b, off, none⟩) n c → base ≤ b := by
  intro b off n c hv
  obtain ⟨_, _, ⟨rfl, e⟩ | ⟨g', cap', cur, rfl, hbs, hh, hr⟩⟩ := h
  · cases hv
  · injection hv with e1
    injection e1 with e1
    injection e1 with e1
    omega
theorem jb_nil (w : World) (base : Nat) : JB w base (.slice none 0 0) [] := ⟨byt_nil, own_nil _ _⟩
end Vt
end Go.Proofs.YtolddolfpnkndaaGreat
namespace Go.Proofs.YtolddolfpnkndaaGreat
open Go.RowKit
namespace Vt
def ks (k : IntKind) (l : List Nat) : List Value := l.map fun x => Value.int k ((x : Nat) : Int)
/-- a list of numbers of the call's own: nil where there is none -/
def JK (k : IntKind) (M : Nat) (E : TypeId) (w : World) (base : Nat) (v : Value) (l : List Nat) : Prop := (∀ x ∈ l, x < M) ∧ w.ownsRow base E 1 v l.length (ks k l)
section
variable {k : IntKind} {M : Nat} {E : TypeId}
theorem JK.shape {w : World} {base : Nat} {v : Value} {l : List Nat} (h : JK k M E w base v l) : ∃ a c, v = .slice a l.length c ∧ l.length ≤ c := by
  rcases h.2.2 with ⟨rfl, e⟩ | ⟨g, cap, cur, rfl, _, _, hl, _⟩
  · exact ⟨none, 0, by rw [e], by omega⟩
  · exact ⟨_, cap, rfl, hl⟩
theorem JK.keep {w w' : World} {base n : Nat} {v : Value} {l : List Nat} (h : JK k M E w base v l) (hk : ∀ g, v.ownBlock = some g → g < n) (hb : Below n w w') : JK k M E w' base v l := by
  obtain ⟨h1, h0, ⟨rfl, e⟩ | ⟨g', cap', cur, rfl, hbs, hh, hr⟩⟩ := h
  · exact ⟨h1, h0, .inl ⟨rfl, e⟩⟩
  · refine ⟨h1, h0, .inr ⟨g', cap', cur, rfl, hbs, ?_, hr⟩⟩
    rw [hb.block g' (hk g' rfl)]; exact hh
theorem JK.blk_lt {w : World} {base : Nat} {v : Value} {l : List Nat} (h : JK k M E w base v l) : ∀ g, v.ownBlock = some g → g < w.heap.size := by
  intro g hg
  obtain ⟨_, _, ⟨rfl, e⟩ | ⟨g', cap', cur, rfl, hbs, hh, hr⟩⟩ := h
  · cases hg
  · cases hg
    exact (Array.getElem?_eq_some_iff.1 hh).1
theorem JK.blk_ge {w : World} {base : Nat} {v : Value} {l : List Nat} (h : JK k M E w base v l) : ∀ g, v.ownBlock = some g → base ≤ g := by
  intro g hg
  obtain ⟨_, _, ⟨rfl, e⟩ | ⟨g', cap', cur, rfl, hbs, hh, hr⟩⟩ := h
  · cases hg
  · cases hg
    exact hbs
theorem JK.keepAll {w w' : World} {base : Nat} {v : Value} {l : List Nat} (h : JK k M E w base v l) (hb : Below w.heap.size w w') : JK k M E w' base v l := h.keep h.blk_lt hb
theorem JK.grownO {w w' : World} {base : Nat} {row : Option Nat} {v : Value} {l : List Nat} (h : JK k M E w base v l) (hg : w.grownBy w' row) (hne : ∀ g, v.ownBlock = some g → some g ≠ row) : JK k M E w' base v l := by
  obtain ⟨h1, h0, ⟨rfl, e⟩ | ⟨g', cap', cur, rfl, hbs, hh, hr⟩⟩ := h
  · exact ⟨h1, h0, .inl ⟨rfl, e⟩⟩
  · refine ⟨h1, h0, .inr ⟨g', cap', cur, rfl, hbs, ?_, hr⟩⟩
    rw [hg.block g' (Array.getElem?_eq_some_iff.1 hh).1 (hne g' rfl)]; exact hh
theorem JK.setO {w : World} {base : Nat} {v : Value} {l : List Nat} (h : JK k M E w base v l) {p : Addr} (hne : ∀ g, v.ownBlock = some g → g ≠ p.block) (u : Value) : JK k M E (w.setCell p u) base v l := by
  obtain ⟨h1, h0, ⟨rfl, e⟩ | ⟨g', cap', cur, rfl, hbs, hh, hr⟩⟩ := h
  · exact ⟨h1, h0, .inl ⟨rfl, e⟩⟩
  · refine ⟨h1, h0, .inr ⟨g', cap', cur, rfl, hbs, ?_, hr⟩⟩
    have := hne g' rfl
    rw [← hh]
    show (w.heap.modify p.block _)[g']? = _
    rw [Array.getElem?_modify, if_neg (fun e => this e.symm)]
theorem JK.grown {w w' : World} {base : Nat} {v : Value} {l : List Nat} {n : Nat} {w0 : World} (hJ : JK k M E w base v l) (hb : Below n w0 w) (hn : n ≤ base) (hn2 : n ≤ w.heap.size) (hg : w.grownBy w' v.ownBlock) : Below n w0 w' :=
  hb.grown hg hn2 fun q hq => Nat.le_trans hn (hJ.blk_ge q hq)
variable {S : TypeId} {by_ : Nat}
end
/-- a block of cells, known whole -/
def Blk (W : World) (O : Nat) (T : TypeId) (cs : List Value) : Prop := W.heap[O]? = some (.cells cs.toArray T (0, 0))
theorem Blk.lt {W : World} {O : Nat} {T : TypeId} {cs : List Value} (h : Blk W O T cs) : O < W.heap.size := (Array.getElem?_eq_some_iff.1 h).1
theorem Blk.cell {W : World} {O : Nat} {T : TypeId} {cs : List Value} (h : Blk W O T cs) (j : Nat) (v : Value) (hv : cs[j]? = some v) : W.cell? ⟨O, j, none⟩ = some v := by
  have h' : W.heap[O]? = some (.cells cs.toArray T (0, 0)) := h
  simp only [World.cell?, h']
  simpa using hv
theorem Blk.frozen {W : World} {O : Nat} {T : TypeId} {cs : List Value} (h : Blk W O T cs) (j : Nat) : W.frozen? ⟨O, j, none⟩ = false := by
  have h' : W.heap[O]? = some (.cells cs.toArray T (0, 0)) := h
  simp [World.frozen?, h']
theorem Blk.below {W W' : World} {O n : Nat} {T : TypeId} {cs : List Value} (h : Blk W O T cs) (hO : O < n) (hb : Below n W W') : Blk W' O T cs := (hb.block O hO).trans h
theorem Blk.keep {W W' : World} {O : Nat} {T : TypeId} {cs : List Value} (h : Blk W O T cs) (hb : Below W.heap.size W W') : Blk W' O T cs := h.below h.lt hb
theorem Blk.grown {W W' : World} {O : Nat} {row : Option Nat} {T : TypeId} {cs : List Value} (h : Blk W O T cs) (hg : W.grownBy W' row) (hne : some O ≠ row) : Blk W' O T cs := (hg.block O h.lt hne).trans h
theorem Blk.alloc {W : World} {O : Nat} {T : TypeId} {cs : List Value} (h : Blk W O T cs) (o : Obj) : Blk (W.alloc o) O T cs := h.keep ((Below.refl _ _).alloc (Nat.le_refl _) _)
theorem Blk.new (W : World) (T : TypeId) (cs : List Value) : Blk (W.alloc (.cells cs.toArray T)) W.heap.size T cs := by
  unfold Blk World.alloc
  simp
theorem Blk.set {W : World} {O j : Nat} {T : TypeId} {cs : List Value} (h : Blk W O T cs) (v : Value) : Blk (W.setCell ⟨O, j, none⟩ v) O T (cs.set j v) := by
  have h' : W.heap[O]? = some (.cells cs.toArray T (0, 0)) := h
  have hlt := h.lt
  have h2 : W.heap[O] = .cells cs.toArray T (0, 0) := by simpa [Array.getElem?_eq_getElem hlt] using h'
  show (W.heap.modify O _)[O]? = _
  rw [Array.getElem?_eq_getElem (by simpa using hlt), Array.getElem_modify_self, h2]
  simp
theorem Blk.other {W : World} {O : Nat} {T : TypeId} {cs : List Value} (h : Blk W O T cs) {p : Addr} (hp : p.block ≠ O) (v : Value) : Blk (W.setCell p v) O T cs := by
  have h' : W.heap[O]? = some (.cells cs.toArray T (0, 0)) := h
  show (W.heap.modify p.block _)[O]? = _
  rw [Array.getElem?_modify, if_neg hp]; exact h'
theorem IsK.setO {k : IntKind} {M : Nat} {w : World} {v : Value} {l : List Nat} (h : IsK k M w v l) {p : Addr} (hne : ∀ b off n c, v = .slice (some ⟨b, off, none⟩) n c → b ≠ p.block) (u : Value) : IsK k M (w.setCell p u) v l := by
  obtain ⟨h1, h2, ⟨rfl, a, c, rfl⟩ | ⟨b, off, c, rfl, h3, h4, h5, h6⟩⟩ := h
  · exact ⟨h1, h2, .inl ⟨rfl, a, c, rfl⟩⟩
  · have hs : (w.setCell p u).heap.size = w.heap.size := by simp [World.setCell]
    refine ⟨h1, h2, .inr ⟨b, off, c, rfl, h3, h4, by omega, fun j hj => ?_⟩⟩
    have := hne _ _ _ _ rfl
    rw [World.cell?_setCell_other _ _ _ _ (by intro e; exact this (by rw [e]))]; exact h6 j hj
end Vt
end Go.Proofs.YtolddolfpnkndaaGreat
namespace Go.Proofs.YtolddolfpnkndaaGreat
open Go.RowKit Go.Maps Go.WideMaps
namespace Dk
open Vt
abbrev TD : TypeId := 86
abbrev TF : TypeId := 97
abbrev TM : TypeId := 84
abbrev TS : TypeId := 9
abbrev TP : TypeId := 94
theorem law : Keyed Tryz.prog TS := string_keyed Tryz.underlying9
/-- a pointer to a whole block, or none, as a map's element -/
def ptrElem (v : Value) : Option (DataW Unit × List MemPlace) :=
  match v with
  | .pointer none => some (.nil, [])
  | .pointer (some ⟨b, 0, none⟩) => some (.lit (.int .u64 b), [])
  | _ => none
def ptrV : Option Nat → Value
  | none => .pointer none
  | some b => .pointer (some ⟨b, 0, none⟩)
def rdP : Option Nat → DataW Unit
  | none => .nil
  | some b => .lit (.int .u64 b)
theorem ptrElem_mk (x : Option Nat) : ptrElem (ptrV x) = some (rdP x, []) := by cases x <;> rfl
theorem ptrElem_inv {v : Value} {y : DataW Unit × List MemPlace} (h : ptrElem v = some y) : ∃ x, v = ptrV x ∧ y = (rdP x, []) := by
  unfold ptrElem at h
  split at h
  · cases h; exact ⟨none, rfl, rfl⟩
  · cases h; exact ⟨some _, rfl, rfl⟩
  · cases h
theorem rdP_inj {x y : Option Nat} (h : rdP x = rdP y) : x = y := by
  cases x <;> cases y
  · rfl
  · cases h
  · cases h
  · injection h with h
    injection h with _ h
    rw [Int.ofNat_inj.1 h]
/-- a file in memory -/
structure En where
  nm : ByteArray
  blk : Nat
  val : Value
  dat : List Nat
  las : Nat
def En.fi (e : En) : Fi := ⟨e.nm, e.dat, e.las⟩
def fnd (es : List En) (s : ByteArray) : Option En := es.find? fun e => decide (e.nm = s)
def kl (s : ByteArray) : Lit := .string s.data.toList
theorem kl_inj {s t : ByteArray} (h : kl s = kl t) : s = t := by
  unfold kl at h
  injection h with h
  cases s; cases t
  congr 1
  exact Array.toList_inj.1 h
theorem key_kl {s : ByteArray} (h : s.size ≤ maxLen) : keyOf Tryz.prog TS (.string s) = some (kl s) := keyOf_string_mk Tryz.underlying9 h
theorem kl_is {s : ByteArray} (h : s.size ≤ maxLen) : WideAt.IsKeyLit (kl s) := law.key (key_kl h)
/-- block m is a map from the names of these files to their blocks -/
def MP (w : World) (m : Nat) (es : List En) : Prop :=
  ∃ D : DataW Unit, w.ownsMap Tryz.prog TS ptrElem m es.length D ∧ (∀ s : ByteArray, s.size ≤ maxLen → D.atKey (kl s) .nil = rdP ((fnd es s).map En.blk)) ∧ (∀ s : ByteArray, s.size ≤ maxLen → Maps.has D (kl s) = (fnd es s).isSome) ∧ Maps.size D = es.length
theorem own_exact {w : World} {m n : Nat} {D : DataW Unit} (h : w.ownsMap Tryz.prog TS ptrElem m n D) {k : Nat} (hk : Maps.size D = k) : w.ownsMap Tryz.prog TS ptrElem m k D := by
  obtain ⟨es, clock, hb, F, hs, hD⟩ := h
  refine ⟨es, clock, hb, F, ?_, hD⟩
  rw [← hk, hD]
  simp [Maps.size, length_sorted]
theorem MP.same {w w' : World} {m : Nat} {es : List En} (h : MP w m es) (hb : w'.heap[m]? = w.heap[m]?) : MP w' m es := by
  obtain ⟨D, ⟨x, c, h1, h2⟩, hD⟩ := h
  exact ⟨D, ⟨x, c, hb.trans h1, h2⟩, hD⟩
theorem MP.lt {w : World} {m : Nat} {es : List En} (h : MP w m es) : m < w.heap.size := by
  obtain ⟨D, h1, _⟩ := h
  exact h1.lt
theorem MP.notBlk {w : World} {m : Nat} {es : List En} (h : MP w m es) {X : Nat} {T : TypeId} {cs : List Value} (hX : Blk w X T cs) : X ≠ m := by
  rintro rfl
  obtain ⟨D, ⟨x, c, h1, _⟩, _⟩ := h
  have h2 : w.heap[X]? = some (.cells cs.toArray T (0, 0)) := hX
  rw [h1] at h2
  cases h2
theorem zeroP (w : World) : (zeroValue TP).run Tryz.prog w = .ok (.pointer none) w := by kernel_rfl
theorem MP.look {w : World} {m : Nat} {es : List En} (h : MP w m es) {s : ByteArray} (hs : s.size ≤ maxLen) : (Instr.lookup TM (.map (some m)) (.string s) false).run Tryz.prog w = .ok (ptrV ((fnd es s).map En.blk)) w := by
  obtain ⟨D, h1, h2, _⟩ := h
  obtain ⟨v, ps, hr, hv⟩ := h1.lookup law Tryz.underlying84 (zeroP w) (ptrElem_mk none) (key_kl hs)
  have hv' : ptrElem v = some (D.atKey (kl s) .nil, ps) := hv
  rw [h2 s hs] at hv'
  clear hv
  have hv := hv'
  obtain ⟨x, rfl, hx⟩ := ptrElem_inv hv
  have hx' := rdP_inj (congrArg Prod.fst hx)
  rw [hr, hx']
theorem fnd_snoc {es : List En} {e : En} (h : fnd es e.nm = none) (s : ByteArray) : fnd (es ++ [e]) s = if e.nm = s then some e else fnd es s := by
  unfold fnd
  rw [List.find?_append]
  by_cases q : e.nm = s
  · rw [if_pos q]
    subst q
    have h' : es.find? (fun f => decide (f.nm = e.nm)) = none := h
    rw [h']; simp
  · rw [if_neg q]; simp [q]
def cutE (es : List En) (s : ByteArray) : List En := es.filter fun e => decide (e.nm ≠ s)
theorem fnd_cut {es : List En} {s t : ByteArray} : fnd (cutE es s) t = if t = s then none else fnd es t := by
  unfold fnd cutE
  rw [List.find?_filter]
  by_cases e : t = s
  · rw [if_pos e, List.find?_eq_none]
    intro f hf
    simp [e]
  · rw [if_neg e]
    congr 1
    funext f
    by_cases e2 : f.nm = t
    · simp [e2, e]
    · simp [e2]
theorem fnd_mem {es : List En} {s : ByteArray} {e : En} (h : fnd es s = some e) : e ∈ es ∧ e.nm = s := by
  unfold fnd at h
  exact ⟨List.mem_of_find?_eq_some h, by simpa using List.find?_some h⟩
theorem fnd_none {es : List En} {s : ByteArray} : fnd es s = none ↔ ∀ e ∈ es, e.nm ≠ s := by
  unfold fnd
  rw [List.find?_eq_none]
  simp
theorem fnd_get (es : List En) (s : ByteArray) : get (es.map En.fi) s = (fnd es s).map En.fi := by
  unfold get fnd
  rw [List.find?_map]
  rfl
theorem MP.store {w : World} {m : Nat} {es : List En} (h : MP w m es) (e : En) (hs : e.nm.size ≤ maxLen) (hn : fnd es e.nm = none) (hl : es.length < maxLen) :
    ∃ w', (Instr.mapUpdate TM (.map (some m)) (.string e.nm) (.pointer (some ⟨e.blk, 0, none⟩))).run Tryz.prog w = .ok () w' ∧ MP w' m (es ++ [e]) ∧ w.mapTurned w' m := by
  obtain ⟨D, h1, h2, h3, h4⟩ := h
  obtain ⟨w', hr, ho, ht⟩ := h1.store law Tryz.underlying84 hl (key_kl hs) (ptrElem_mk (some e.blk))
  have htd := h1.tidy law
  have hm := htd.isMap
  have hsz : Maps.size (D.put (kl e.nm) (rdP (some e.blk))) = (es ++ [e]).length := by
    rw [Maps.size_put htd, h3 _ hs, hn, h4]; simp
  refine ⟨w', hr, ⟨_, own_exact ho hsz, fun s hss => ?_, fun s hss => ?_, hsz⟩, ht⟩
  · rw [fnd_snoc hn]
    by_cases q : e.nm = s
    · rw [if_pos q, ← q, Maps.atKey_put_same hm (kl_is hs)]; rfl
    · rw [if_neg q, Maps.atKey_put_other (fun e' => q (kl_inj e').symm), h2 s hss]
  · rw [fnd_snoc hn]
    by_cases q : e.nm = s
    · rw [if_pos q, ← q, Maps.has_put_same hm (kl_is hs)]; rfl
    · rw [if_neg q, Maps.has_put_other (fun e' => q (kl_inj e').symm), h3 s hss]
theorem cut_len {es : List En} (hn : es.Pairwise fun a b => a.nm ≠ b.nm) (s : ByteArray) : (cutE es s).length + (if (fnd es s).isSome then 1 else 0) = es.length := by
  induction es with
  | nil => rfl
  | cons a r ih =>
    rw [List.pairwise_cons] at hn
    have ih := ih hn.2
    unfold cutE fnd at ih ⊢
    rw [List.filter_cons, List.find?_cons]
    by_cases e : a.nm = s
    · have : r.filter (fun f => decide (f.nm ≠ s)) = r := by
        rw [List.filter_eq_self]
        intro x hx
        have := hn.1 x hx
        rw [e] at this
        simpa using fun q : x.nm = s => this q.symm
      simp only [e, ne_eq, not_true_eq_false, decide_false, Bool.false_eq_true, if_false, decide_true, Option.isSome_some, if_true, List.length_cons]
      simp only [ne_eq] at this
      rw [this]
    · simp only [e, ne_eq, not_false_eq_true, decide_true, if_true, decide_false, List.length_cons]
      simp only [ne_eq] at ih
      omega
theorem MP.del {w : World} {m : Nat} {es : List En} (h : MP w m es) (hnd : es.Pairwise fun a b => a.nm ≠ b.nm) {s : ByteArray} (hs : s.size ≤ maxLen) (ty : TypeId) :
    ∃ w', (Builtin.delete_ #[TM, TS] ty #[.map (some m), .string s]).run Tryz.prog w = .ok (.tuple #[]) w' ∧ MP w' m (cutE es s) ∧ w.mapTurned w' m := by
  obtain ⟨D, h1, h2, h3, h4⟩ := h
  obtain ⟨w', hr, ho, ht⟩ := h1.drop law Tryz.underlying84 (key_kl hs) ty
  have htd := h1.tidy law
  have hsz : Maps.size (D.del (kl s)) = (cutE es s).length := by
    have h5 := Maps.size_del (k := kl s) htd
    have h6 := cut_len hnd s
    rw [h3 s hs, h4] at h5
    omega
  refine ⟨w', hr, ⟨_, own_exact ho hsz, fun t hts => ?_, fun t hts => ?_, hsz⟩, ht⟩
  · rw [fnd_cut]
    by_cases q : t = s
    · rw [if_pos q, q, Maps.atKey_del_same]; rfl
    · rw [if_neg q, Maps.atKey_del_other (fun e' => q (kl_inj e')), h2 t hts]
  · rw [fnd_cut]
    by_cases q : t = s
    · rw [if_pos q, q, Maps.has_del_same]; rfl
    · rw [if_neg q, Maps.has_del_other (fun e' => q (kl_inj e')), h3 t hts]
/-! ### what is left as it was -/
structure Tr (O : Nat → Prop) (w w' : World) : Prop where
  os : w'.os = w.os
  tape : w'.tape = w.tape
  output : w'.output = w.output
  size : w.heap.size ≤ w'.heap.size
  block : ∀ k, k < w.heap.size → ¬ O k → w'.heap[k]? = w.heap[k]?
theorem Tr.refl (O : Nat → Prop) (w : World) : Tr O w w := ⟨rfl, rfl, rfl, Nat.le_refl _, fun _ _ _ => rfl⟩
theorem Tr.trans {O O' : Nat → Prop} {a b c : World} (h : Tr O a b) (k : Tr O' b c) (hO : ∀ x, O' x → O x ∨ a.heap.size ≤ x) : Tr O a c :=
  ⟨k.os.trans h.os, k.tape.trans h.tape, k.output.trans h.output, Nat.le_trans h.size k.size, fun x hx hn => (k.block x (Nat.lt_of_lt_of_le hx h.size) (fun q => (hO x q).elim hn (fun q => by omega))).trans (h.block x hx hn)⟩
theorem Tr.mono {O O' : Nat → Prop} {a b : World} (h : Tr O a b) (hO : ∀ x, O x → x < a.heap.size → O' x) : Tr O' a b := ⟨h.os, h.tape, h.output, h.size, fun x hx hn => h.block x hx fun q => hn (hO x q hx)⟩
theorem Tr.alloc (O : Nat → Prop) (w : World) (o : Obj) : Tr O w (w.alloc o) := ⟨rfl, rfl, rfl, by simp, fun k hk _ => (MapKept.heap_alloc w o).2 k hk⟩
theorem Tr.drewN (O : Nat → Prop) (w : World) (n : Nat) : Tr O w (w.drewN n) := ⟨rfl, rfl, rfl, Nat.le_refl _, fun _ _ _ => rfl⟩
theorem Tr.drew (O : Nat → Prop) (w : World) : Tr O w w.drew := ⟨rfl, rfl, rfl, Nat.le_refl _, fun _ _ _ => rfl⟩
theorem Tr.set {O : Nat → Prop} {w : World} {p : Addr} (hp : O p.block) (u : Value) : Tr O w (w.setCell p u) := by
  refine ⟨rfl, rfl, rfl, by simp [World.setCell], fun k hk hn => ?_⟩
  show (w.heap.modify p.block _)[k]? = _
  rw [Array.getElem?_modify, if_neg (fun e => hn (by rw [← e]; exact hp))]
theorem Tr.grown {O : Nat → Prop} {w w' : World} {row : Option Nat} (h : w.grownBy w' row) (hr : ∀ k, row = some k → O k) : Tr O w w' := ⟨h.os, h.tape, h.output, h.size, fun k hk hn => h.block k hk fun q => hn (hr k q.symm)⟩
theorem Tr.turned {O : Nat → Prop} {w w' : World} {m : Nat} (h : w.mapTurned w' m) (hm : O m) : Tr O w w' := Tr.grown h.grown fun k e => by injection e with e; rw [← e]; exact hm
theorem Tr.below {O : Nat → Prop} {w w' : World} {B : Nat} (h : Tr O w w') (hO : ∀ k, O k → B ≤ k) (hB : B ≤ w.heap.size) : Below B w w' := ⟨h.os, h.tape, h.output, h.size, fun k hk => h.block k (by omega) fun q => by have := hO k q; omega⟩
/-! ### the disk -/
def cells (S : Ds) (m : Nat) : List Value := [.int .i64 (S.cap : Int), .int .i64 (S.used : Int), .map (some m), .int .i64 (S.acts : Int), .bool S.down, .int .i64 (S.fail : Int), .int .i64 (S.brk : Int), .bool S.done]
structure DKm (w : World) (d m : Nat) (es : List En) (O : Nat → Prop) (S : Ds) : Prop where
  fs : S.fs = es.map En.fi
  box : Blk w d TD (cells S m)
  map : MP w m es
  file : ∀ e ∈ es, Blk w e.blk TF [e.val, .int .i64 (e.las : Int)] ∧ JB w 0 e.val e.dat
  apart : es.Pairwise fun a b => a.blk ≠ b.blk ∧ ∀ g, a.val.ownBlock = some g → b.val.ownBlock ≠ some g
  own : O d ∧ O m ∧ ∀ e ∈ es, O e.blk ∧ ∀ g, e.val.ownBlock = some g → O g
  olt : ∀ b, O b → b < w.heap.size
  good : Good S
def DK (w : World) (d : Nat) (O : Nat → Prop) (S : Ds) : Prop := ∃ m es, DKm w d m es O S
/-- all own blocks are as they were -/
theorem DKm.keep {w w' : World} {d m : Nat} {es : List En} {O : Nat → Prop} {S : Ds} (h : DKm w d m es O S) (hb : ∀ b, O b → w'.heap[b]? = w.heap[b]?) (hs : w.heap.size ≤ w'.heap.size) : DKm w' d m es O S := by
  refine ⟨h.fs, (hb d h.own.1).trans h.box, h.map.same (hb m h.own.2.1), fun e he => ⟨(hb _ (h.own.2.2 e he).1).trans (h.file e he).1, ?_⟩, h.apart, h.own, fun b q => Nat.lt_of_lt_of_le (h.olt b q) hs, h.good⟩
  obtain ⟨h0, h1, ⟨h2, h3⟩ | ⟨g, cap, cur, h2, h3, h4, h5⟩⟩ := (h.file e he).2
  · exact ⟨h0, h1, .inl ⟨h2, h3⟩⟩
  · exact ⟨h0, h1, .inr ⟨g, cap, cur, h2, h3, (hb g ((h.own.2.2 e he).2 g (by rw [h2]; rfl))).trans h4, h5⟩⟩
theorem DK.keep {w w' : World} {d : Nat} {O : Nat → Prop} {S : Ds} (h : DK w d O S) (hb : ∀ b, O b → w'.heap[b]? = w.heap[b]?) (hs : w.heap.size ≤ w'.heap.size) : DK w' d O S := by
  obtain ⟨m, es, h⟩ := h
  exact ⟨m, es, h.keep hb hs⟩
theorem DK.olt {w : World} {d : Nat} {O : Nat → Prop} {S : Ds} (h : DK w d O S) : ∀ b, O b → b < w.heap.size := by obtain ⟨_, _, h⟩ := h; exact h.olt
theorem DK.good {w : World} {d : Nat} {O : Nat → Prop} {S : Ds} (h : DK w d O S) : Good S := by obtain ⟨_, _, h⟩ := h; exact h.good
/-- what others do does not touch it -/
theorem DK.aside {w w' : World} {d : Nat} {O O2 : Nat → Prop} {S : Ds} (h : DK w d O S) (ht : Tr O2 w w') (ha : ∀ b, O b → ¬ O2 b) : DK w' d O S := h.keep (fun b q => ht.block b (h.olt b q) (ha b q)) ht.size
theorem DKm.aside {w w' : World} {d m : Nat} {es : List En} {O O2 : Nat → Prop} {S : Ds} (h : DKm w d m es O S) (ht : Tr O2 w w') (ha : ∀ b, O b → ¬ O2 b) : DKm w' d m es O S := h.keep (fun b q => ht.block b (h.olt b q) (ha b q)) ht.size
/-- what a call leaves -/
def Nx (O : Nat → Prop) (w : World) (d : Nat) (S : Ds) (w' : World) : Prop := ∃ O', DK w' d O' S ∧ Tr O w w' ∧ ∀ b, O' b → O b ∨ w.heap.size ≤ b
theorem Nx.same {O : Nat → Prop} {w : World} {d : Nat} {S : Ds} (h : DK w d O S) : Nx O w d S w := ⟨O, h, Tr.refl O w, fun _ q => .inl q⟩
end Dk
end Go.Proofs.YtolddolfpnkndaaGreat
namespace Go.Proofs.YtolddolfpnkndaaGreat
open Go.RowKit Go.Maps
namespace Dk
open Vt
set_option maxRecDepth 100000 in
theorem isName_is (s : ByteArray) (w : World) : Calls Tryz.prog 45 #[.string s] w fun e w' => e = .returned (.bool (isNm s)) ∧ w' = w := by
  rcases Nat.lt_or_ge s.size 1 with h | h
  · have HN : Hid (isNm s = false) := by show isNm s = false; unfold isNm; simp; omega
    rw [HN.out]
    go_enter Tryz.func45, Tryz.ntmps45
    go_wp2
    go_ret
    exact ⟨rfl, rfl⟩
  · have HN : Hid (isNm s = decide ((s.size : Int) ≤ 60)) := by
      show isNm s = _
      unfold isNm
      rw [decide_eq_true h, Bool.true_and, decide_eq_decide]; omega
    rw [HN.out]
    go_enter Tryz.func45, Tryz.ntmps45
    go_wp2
    go_ret
    exact ⟨rfl, rfl⟩
set_option maxRecDepth 100000 in
theorem bar_is (w : World) (d : Nat) (O : Nat → Prop) (S : Ds) (b : Bool) (h : DK w d O S) : Calls Tryz.prog 84 #[.pointer (some ⟨d, 0, none⟩), .bool b] w fun e w' => e = .returned (.int .i64 (bar S b : Int)) ∧ w' = w := by
  obtain ⟨m, es, h⟩ := h
  have c4 := h.box.cell 4 _ rfl
  clear h
  unfold bar
  cases hd : S.down <;> cases b <;> rw [hd] at c4
  · go_enter Tryz.func84, Tryz.ntmps84
    go_wp2
    go_ret
    exact ⟨rfl, rfl⟩
  · go_enter Tryz.func84, Tryz.ntmps84
    go_wp2
    go_ret
    exact ⟨rfl, rfl⟩
  · go_enter Tryz.func84, Tryz.ntmps84
    go_wp2
    go_ret
    exact ⟨rfl, rfl⟩
  · go_enter Tryz.func84, Tryz.ntmps84
    go_wp2
    go_ret
    exact ⟨rfl, rfl⟩
theorem isNm_len {s : ByteArray} (h : isNm s = true) : s.size ≤ maxLen := by
  unfold isNm at h
  simp at h
  unfold maxLen
  omega
/-- what find answers -/
def fans (es : List En) (S : Ds) (s : ByteArray) (b : Bool) : Value := .tuple #[ptrV (if look S s b = 0 then (fnd es s).map En.blk else none), .int .i64 (look S s b : Int)]
theorem fans_no {es : List En} {S : Ds} {s : ByteArray} {b : Bool} {r : Nat} (h : bar S (isNm s && b) = r) (hr : r ≠ 0) : fans es S s b = .tuple #[.pointer none, .int .i64 (r : Int)] := by
  unfold fans look
  rw [h, if_pos hr, if_neg hr]; rfl
theorem fans_in {es : List En} {S : Ds} {s : ByteArray} {b : Bool} (hf : S.fs = es.map En.fi) (h : bar S (isNm s && b) = 0) : fans es S s b = match fnd es s with | none => .tuple #[.pointer none, .int .i64 71] | some e => .tuple #[.pointer (some ⟨e.blk, 0, none⟩), .int .i64 0] := by
  unfold fans look
  rw [h, hf, fnd_get]
  simp only [ne_eq, not_true_eq_false, if_false]
  cases fnd es s <;> rfl
set_option maxRecDepth 100000 in
theorem find_is (w : World) (d m : Nat) (es : List En) (O : Nat → Prop) (S : Ds) (s : ByteArray) (b : Bool) (h : DKm w d m es O S) : Calls Tryz.prog 61 #[.pointer (some ⟨d, 0, none⟩), .string s, .bool b] w fun e w' => e = .returned (fans es S s b) ∧ w' = w := by
  have H := hd h
  have c2 := h.box.cell 2 _ rfl
  clear h
  obtain ⟨r, hr⟩ : ∃ r, bar S (isNm s && b) = r := ⟨_, rfl⟩
  have HR := hd hr
  have hB := hd (bar_is w d O S (isNm s && b) ⟨m, es, H.out⟩)
  rw [hr] at hB
  clear hr
  have hI := hd (isName_is s w)
  by_cases h0 : r = 0
  · subst h0
    have HF := hd (fans_in H.out.fs HR.out)
    have hs : isNm s = true := by
      have := HR.out
      unfold bar at this
      cases h1 : isNm s
      · rw [h1] at this
        cases hd : S.down <;> rw [hd] at this <;> simp at this
      · rfl
    have hl := H.out.map.look (isNm_len hs)
    rw [hs] at hB hI HR
    simp only [Bool.true_and] at hB
    cases hf : fnd es s with
    | none =>
      rw [hf] at hl HF
      simp only [Option.map_none, ptrV] at hl
      rw [HF.out]
      clear HF hf
      go_enter Tryz.func61, Tryz.ntmps61
      go_wp2_with fail
      refine Calls.mono hI.out ?_
      rintro e w1 ⟨rfl, rfl⟩
      go_wp2_with fail
      refine Calls.mono hB.out ?_
      rintro e w1 ⟨rfl, rfl⟩
      go_wp2_with fail
      go_ret2
      exact ⟨rfl, rfl⟩
    | some e =>
      rw [hf] at hl HF
      simp only [Option.map_some, ptrV] at hl
      rw [HF.out]
      clear HF hf
      go_enter Tryz.func61, Tryz.ntmps61
      go_wp2_with fail
      refine Calls.mono hI.out ?_
      rintro e w1 ⟨rfl, rfl⟩
      go_wp2_with fail
      refine Calls.mono hB.out ?_
      rintro e w1 ⟨rfl, rfl⟩
      go_wp2_with fail
      go_ret2
      exact ⟨rfl, rfl⟩
  · have HF := hd (fans_no (es := es) HR.out h0)
    rw [HF.out]
    have h0' : ¬ ((r : Int) = 0) := by omega
    cases hs : isNm s
    · rw [hs] at hB hI
      simp only [Bool.false_and] at hB
      go_enter Tryz.func61, Tryz.ntmps61
      go_wp2_with fail
      refine Calls.mono hI.out ?_
      rintro e w1 ⟨rfl, rfl⟩
      go_wp2_with fail
      refine Calls.mono hB.out ?_
      rintro e w1 ⟨rfl, rfl⟩
      go_wp2_with fail
      go_ret2
      exact ⟨rfl, rfl⟩
    · rw [hs] at hB hI
      simp only [Bool.true_and] at hB
      go_enter Tryz.func61, Tryz.ntmps61
      go_wp2_with fail
      refine Calls.mono hI.out ?_
      rintro e w1 ⟨rfl, rfl⟩
      go_wp2_with fail
      refine Calls.mono hB.out ?_
      rintro e w1 ⟨rfl, rfl⟩
      go_wp2_with fail
      go_ret2
      exact ⟨rfl, rfl⟩
set_option maxRecDepth 100000 in
theorem due_is (w : World) (d j n : Nat) (hc : w.cell? ⟨d, j, none⟩ = some (.int .i64 (n : Int))) (hf : w.frozen? ⟨d, j, none⟩ = false) (hn : n < 9223372036854775808) : Calls Tryz.prog 90 #[.pointer (some ⟨d, j, none⟩)] w fun e w' => e = .returned (.bool (decide (n = 1))) ∧ w' = if n = 0 then w else w.setCell ⟨d, j, none⟩ (.int .i64 ((n - 1 : Nat) : Int)) := by
  by_cases h0 : n = 0
  · subst h0
    simp only [if_true]
    go_enter Tryz.func90, Tryz.ntmps90
    go_wp2
    go_ret
    exact ⟨rfl, rfl⟩
  · rw [if_neg h0]
    have e1 : ((n : Int) - 1) = ((n - 1 : Nat) : Int) := by omega
    have e2 : decide (n = 1) = decide (((n - 1 : Nat) : Int) = 0) := by rw [decide_eq_decide]; omega
    rw [e2, ← e1]
    clear e1 e2
    go_enter Tryz.func90, Tryz.ntmps90
    go_wp2
    go_ret
    exact ⟨rfl, rfl⟩
end Dk
end Go.Proofs.YtolddolfpnkndaaGreat
