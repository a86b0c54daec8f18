/-
  A RANGE OVER AN ITERATOR THAT ITSELF RANGES OVER ANOTHER ONE AND YIELDS WITHIN (scan.Frames over located): a contract of one's own ('SeqX': X are the iterator's own blocks; the caller's invariant abides whatever is done to these, and to what is no cells and lies beyond the caller's beginning) and the caller's law over it.
-/
import Derived.Test.YtifjjoobbegpoaaMhbg
namespace Go.Proofs.Ytifjjoobbegpoaa
open Go.RowKit Go.Shelf
namespace Vt
/-- what an iterator may do between two rounds: its own blocks X, and what is no cells and lies at B or beyond -/
structure Turned (X : Nat → Prop) (B : Nat) (W W' : World) : Prop where
  os : W'.os = W.os
  tape : W'.tape = W.tape
  output : W'.output = W.output
  size : W.heap.size ≤ W'.heap.size
  block : ∀ (k : Nat) (o : Obj), W.heap[k]? = some o → ¬ X k → (o.isCells = true ∨ k < B) → W'.heap[k]? = some o
theorem Turned.refl (X : Nat → Prop) (B : Nat) (W : World) : Turned X B W W := ⟨rfl, rfl, rfl, Nat.le_refl _, fun _ _ h _ _ => h⟩
theorem Turned.trans {X : Nat → Prop} {B : Nat} {a b c : World} (h : Turned X B a b) (k : Turned X B b c) : Turned X B a c :=
  ⟨k.os.trans h.os, k.tape.trans h.tape, k.output.trans h.output, Nat.le_trans h.size k.size, fun i o hi hx ho => k.block i o (h.block i o hi hx ho) hx ho⟩
theorem Turned.mono {X Y : Nat → Prop} {B C : Nat} {a b : World} (h : Turned X B a b) (hX : ∀ k, X k → Y k) (hB : C ≤ B) : Turned Y C a b :=
  ⟨h.os, h.tape, h.output, h.size, fun i o hi hx ho => h.block i o hi (fun x => hx (hX i x)) (by rcases ho with ho | ho; exact .inl ho; exact .inr (by omega))⟩
theorem Turned.of_below {X : Nat → Prop} {B : Nat} {a b : World} (h : Below a.heap.size a b) : Turned X B a b :=
  ⟨h.os, h.tape, h.output, h.size, fun i _ hi _ _ => (h.block i (Array.getElem?_eq_some_iff.1 hi).1).trans hi⟩
theorem Turned.alloc {X : Nat → Prop} {B : Nat} (W : World) (o : Obj) : Turned X B W (W.alloc o) := Turned.of_below ((Below.refl _ _).alloc (Nat.le_refl _) _)
theorem Turned.putObj {X : Nat → Prop} {B : Nat} {W : World} {l : Nat} {o : Obj} (o' : Obj) (hl : W.heap[l]? = some o) (ho : o.isCells = false) (hB : B ≤ l) : Turned X B W (W.putObj l o') :=
  ⟨rfl, rfl, rfl, by simp, fun k q hk _ hq => by
    by_cases e : k = l
    · subst e; rw [hl] at hk; cases hk
      rcases hq with hq | hq
      · rw [ho] at hq; cases hq
      · omega
    · exact (World.putObj_heap_other e).trans hk⟩
theorem Turned.of_grown {X : Nat → Prop} {B : Nat} {W W' : World} {row : Option Nat} (hg : W.grownBy W' row) (hr : ∀ r, row = some r → B ≤ r ∧ ∃ o : Obj, W.heap[r]? = some o ∧ o.isCells = false) : Turned X B W W' :=
  ⟨hg.os, hg.tape, hg.output, hg.size, fun k q hk _ hq => by
    refine (hg.block k (Array.getElem?_eq_some_iff.1 hk).1 (fun e => ?_)).trans hk
    obtain ⟨h1, o, ho, hc⟩ := hr k e.symm
    rw [hk] at ho; cases ho
    rcases hq with hq | hq
    · rw [hc] at hq; cases hq
    · omega⟩
/-- the caller's invariant abides what the iterator does -/
def AbidesX {β : Type} (B : Nat) (J : β → (Nat → Prop) → World → Prop) : Prop :=
  ∀ s X X' W W', J s X W → Turned X B W W' → (∀ k, X' k → X k ∨ W.heap.size ≤ k) → J s X' W'
theorem AbidesX.turn {β : Type} {B : Nat} {J : β → (Nat → Prop) → World → Prop} (h : AbidesX B J) {s : β} {X : Nat → Prop} {W W' : World} (hs : J s X W) (ht : Turned X B W W') : J s X W' := h s X X W W' hs ht (fun _ x => .inl x)
theorem AbidesX.mono {β : Type} {B C : Nat} {J : β → (Nat → Prop) → World → Prop} (h : AbidesX B J) (hB : B ≤ C) : AbidesX C J :=
  fun s X X' W W' hs ht hX => h s X X' W W' hs (ht.mono (fun _ x => x) hB) hX
/-- THE CONTRACT: K0: what the rounds must keep of what lay ahead. -/
def SeqX {α : Type} (P : Program) (g : Nat) (lb : Array Value) (encs : α → Array Value) (K0 : Nat → Prop) (S Sp : List α → Prop) (N : Nat) (w : World) : Prop :=
  ∀ (l : Nat) (J Jx : List α → (Nat → Prop) → World → Prop) (W : World), Below w.heap.size w W → AbidesX W.heap.size J → AbidesX W.heap.size Jx →
    (∀ pre x X W1, J pre X W1 → (∀ k, X k → W.heap.size ≤ k ∧ k < W1.heap.size) → pre.length < N → YieldAt Fence.wide 0 P l (encs x) W1 fun e W' =>
      KeepsFrom W.heap.size W1 W' ∧ ((e = .returned (.bool true) ∧ J (pre ++ [x]) X W' ∧ KeepS (fun k => K0 k ∨ X k) W1 W') ∨ (e = .returned (.bool false) ∧ Jx (pre ++ [x]) X W'))) →
    J [] (fun _ => False) W →
    Calls P g (#[.func (.yield l) #[] #[]] ++ lb) W fun e W' => (∃ v, e = .returned v) ∧ ((∃ xs X, S xs ∧ J xs X W') ∨ (∃ pre X, Sp pre ∧ Jx pre X W'))
theorem RoundIn.any {n m : Nat} {P : Program} {l : Nat} {f : FuncId} {tmps : Array Value} {assign body : Code} {w : World} {R : Ending → World → Prop} (h : RoundIn Fence.wide n P l f tmps assign body w R) : RoundIn Fence.wide m P l f tmps assign body w R :=
  ⟨h.1, fun c cs _ => h.2 c cs (room_wide _)⟩
theorem YieldAt.any {n m : Nat} {P : Program} {l : Nat} {args : Array Value} {W : World} {R : Ending → World → Prop} (h : YieldAt Fence.wide n P l args W R) : YieldAt Fence.wide m P l args W R := by
  obtain ⟨fn, tmps, assign, body, hy, hR⟩ := h
  exact ⟨fn, tmps, assign, body, hy, RoundIn.any hR⟩
/-- how the body of a round may be left -/
def postX {α : Type} (B : Nat) (K0 X : Nat → Prop) (I : List α → (Nat → Prop) → World → Prop) (Ix : Code → List α → (Nat → Prop) → World → Prop) (xs : List α) (W : World) : Exit → Act → World → Prop
  | .normal, _, W' => KeepsFrom B W W' ∧ KeepS (fun k => K0 k ∨ X k) W W' ∧ I xs X W'
  | .ret, _, W' => KeepsFrom B W W' ∧ Ix .ret xs X W'
  | .exit id, _, W' => KeepsFrom B W W' ∧ Ix (.exit id) xs X W'
  | .goto t, _, W' => KeepsFrom B W W' ∧ Ix (.goto t) xs X W'
  | .panic _, _, _ => False
  | .outgrown, _, _ => False
theorem keepS_put {S : Nat → Prop} {W : World} {l : Nat} (o' : Obj) (hS : ¬ S l) : KeepS S W (W.putObj l o') :=
  ⟨rfl, rfl, rfl, by simp, fun k hk => World.putObj_heap_other (fun e => hS (e ▸ hk))⟩
/-- THE CALLER's LAW. -/
theorem wpIn_rangeFunc_X {α : Type} {n : Nat} {P : Program} {g : Operand} {ps : Array Tmp} {assign body : Code} {Q : Exit → Act → World → Prop} {a : Act} {w : World}
    {gf : Nat} {lb : Array Value} (hg : a.eval g = .func (.func gf) #[] lb) (eg : ∀ args w, (callFunc gf args).run P w = .ok (.enter gf args) w)
    {encs : α → Array Value} {K0 : Nat → Prop} {S Sp : List α → Prop} {N : Nat} {w0 : World} (hseq : SeqX P gf lb encs K0 S Sp N w0)
    (hK0 : ∀ k, K0 k → k < w.heap.size) (hb0 : Below w0.heap.size w0 w) (hps : ∀ x, (encs x).size = ps.size)
    (I : List α → (Nat → Prop) → World → Prop) (Ix : Code → List α → (Nat → Prop) → World → Prop) (hI : AbidesX w.heap.size I) (hIx : ∀ c, AbidesX w.heap.size (Ix c)) (h0 : I [] (fun _ => False) w) (Ax : α → Act → World → Prop) (hAx : ∀ x a', OwnFrom w.heap.size (fun (_ : Unit) W => Ax x a' W))
    (hassign : ∀ (l : Nat) (pre : List α) (x : α) (X : Nat → Prop) (W : World) (K : Act → World → Prop), I pre X W → (∀ k, X k → w.heap.size ≤ k ∧ k < W.heap.size) → (∀ a' W', KeepsFrom w.heap.size W W' → KeepS (fun k => K0 k ∨ X k) W W' → I pre X W' → Ax x a' W' → K a' W') →
      assign.wpIn (Fence.wide.inRound l) (n - 1 - 1) P (Exit.then K (fun _ _ _ => False)) { tmps := (ps.zip (encs x)).foldl (fun t (p, v) => t.setIfInBounds p v) a.tmps, defers := [] } W)
    (hbody : ∀ (l : Nat) (pre : List α) (x : α) (X : Nat → Prop) (a' : Act) (W : World), w.heap.size ≤ l → (∃ r, W.heap[l]? = some (.loop r)) → (∀ k, X k → w.heap.size + 2 ≤ k ∧ k < W.heap.size) → I pre X W → Ax x a' W → pre.length < N → body.wpIn (Fence.wide.inRound l) (n - 1 - 1) P (postX w.heap.size K0 X I Ix (pre ++ [x]) W) a' W)
    (hdone : ∀ (D : Nat) (xs : List α) (X : Nat → Prop) (W : World), w.heap.size ≤ D → S xs → I xs X W → W.heap[D]? = some (.deferred (some [])) → Q .normal { a with defers := { target := .collected D, args := #[] } :: a.defers } W)
    (hstop : ∀ (D : Nat) (c : Code) (pre : List α) (X : Nat → Prop) (W : World), w.heap.size ≤ D → Sp pre → Ix c pre X W → W.heap[D]? = some (.deferred (some [])) → c.wpIn Fence.wide n P Q { a with defers := { target := .collected D, args := #[] } :: a.defers } W) :
    (Code.rangeFunc g ps assign body).wpIn Fence.wide n P Q a w := by
  refine wpIn_rangeFunc ?_
  intro fn hfn
  show ∃ _, _
  obtain ⟨rec, hrec⟩ : ∃ rec : LoopState → Option Code → Loop, rec = fun st pe => { state := st, pending := pe, fn, tmps := a.tmps, params := ps, assign, body, defers := w.heap.size } := ⟨_, rfl⟩
  obtain ⟨W1, hW1⟩ : ∃ W1, (w.alloc (.deferred (some []))).alloc (.loop (rec .ready none)) = W1 := ⟨_, rfl⟩
  have hs1 : W1.heap.size = w.heap.size + 2 := by rw [← hW1]; simp
  have hL1 : W1.heap[w.heap.size + 1]? = some (.loop (rec .ready none)) := by
    rw [← hW1]; have := World.alloc_heap_new (w.alloc (.deferred (some []))) (.loop (rec .ready none)); rwa [World.size_alloc] at this
  have hK1 : W1.heap[w.heap.size]? = some (.deferred (some [])) := by
    rw [← hW1]; exact (Below.heap_alloc _ _ _ (by simp)).trans (World.alloc_heap_new w _)
  have hI1 : I [] (fun _ => False) W1 := by rw [← hW1]; exact hI.turn (hI.turn h0 (Turned.alloc _ _)) (Turned.alloc _ _)
  have hb1 : Below w0.heap.size w0 W1 := by
    rw [← hW1]; exact hb0.trans ((((Below.refl _ w).alloc (Nat.le_refl _) _).alloc (by simp) _).mono hb0.size)
  refine ⟨w.heap.size + 1, [{ target := .collected w.heap.size, args := #[] }], W1, { target := .fn (.func gf) lb, args := #[.func (.yield (w.heap.size + 1)) #[] #[]] }, W1, gf,
    #[.func (.yield (w.heap.size + 1)) #[] #[]] ++ lb, W1, ?_, ?_, ?_, ?_, ?_, ?_⟩
  · rw [← hW1, hrec]; exact run_enterLoop_outer _ _ _ _ _
  · simp only [resolve, hg]
    simp [go_sem]
  · intro f' hf'; exact trivial
  · simp [invoke, go_sem, eg]
  · intro h; cases h
  · refine callsIn_wide.2 (Calls.mono (hseq (w.heap.size + 1)
      (fun pre X W => I pre X W ∧ W.heap[w.heap.size + 1]? = some (.loop (rec .ready none)) ∧ W.heap[w.heap.size]? = some (.deferred (some [])) ∧ (∀ k, X k → w.heap.size + 2 ≤ k))
      (fun pre X W => ∃ c, Ix c pre X W ∧ W.heap[w.heap.size + 1]? = some (.loop (rec .done (some c))) ∧ W.heap[w.heap.size]? = some (.deferred (some [])) ∧ (∀ k, X k → w.heap.size + 2 ≤ k))
      W1 hb1
      (fun s X X' A B hs ht hX => ⟨hI s X X' A B hs.1 (ht.mono (fun _ x => x) (by omega)) hX, ht.block _ _ hs.2.1 (fun x => by have := hs.2.2.2 _ x; omega) (.inr (by omega)), ht.block _ _ hs.2.2.1 (fun x => by have := hs.2.2.2 _ x; omega) (.inr (by omega)), fun k hk => by
        rcases hX k hk with h | h
        · exact hs.2.2.2 k h
        · have := (Array.getElem?_eq_some_iff.1 hs.2.1).1; omega⟩)
      (fun s X X' A B hs ht hX => by
        obtain ⟨c, hc, hl, hk, hx⟩ := hs
        exact ⟨c, hIx c s X X' A B hc (ht.mono (fun _ x => x) (by omega)) hX, ht.block _ _ hl (fun x => by have := hx _ x; omega) (.inr (by omega)), ht.block _ _ hk (fun x => by have := hx _ x; omega) (.inr (by omega)), fun k hk' => by
          rcases hX k hk' with h | h
          · exact hx k h
          · have := (Array.getElem?_eq_some_iff.1 hl).1; omega⟩)
      ?_ ⟨hI1, hL1, hK1, fun _ h => h.elim⟩) ?_)
    · rintro pre x X W ⟨hi, hl, hk, hx⟩ hxB hlen
      have hlt : w.heap.size + 1 < W.heap.size := (Array.getElem?_eq_some_iff.1 hl).1
      have hy := run_yield (P := P) (args := encs x) hl (by rw [hrec]; exact hps x)
      rw [hrec] at hy
      refine ⟨fn, _, assign, body, hy, RoundIn.any (n := n - 1 - 1) (roundIn_of_wpIn hfn (hassign _ pre x X W _ hi (fun k h => ⟨by have := hx k h; omega, (hxB k h).2⟩) ?_))⟩
      clear hy
      intro a' Wa hkfa hkpa hia hax
      replace hl := hkfa.same _ _ (by omega) hl rfl
      replace hk := hkfa.same _ _ (Nat.le_refl _) hk rfl
      replace hlt : w.heap.size + 1 < Wa.heap.size := (Array.getElem?_eq_some_iff.1 hl).1
      replace hi := hia
      clear hia
      have hxA : ∀ k, X k → k < Wa.heap.size := fun k h => Nat.lt_of_lt_of_le (hxB k h).2 hkfa.size
      clear hxB
      revert hkpa hkfa
      generalize W = Wb
      intro hkfa hkpa
      obtain ⟨W, rfl⟩ : ∃ W, W = Wa := ⟨_, rfl⟩
      refine ⟨_, run_beginRound hl (by rw [hrec]), ?_⟩
      have hl2 : (W.putObj (w.heap.size + 1) (.loop { rec .ready none with state := .busy })).heap[w.heap.size + 1]? = some (.loop { rec .ready none with state := .busy }) := World.putObj_heap_same hlt
      have hk2 : (W.putObj (w.heap.size + 1) (.loop { rec .ready none with state := .busy })).heap[w.heap.size]? = some (.deferred (some [])) := (World.putObj_heap_other (by omega)).trans hk
      have hnS : ¬ (K0 (w.heap.size + 1) ∨ X (w.heap.size + 1)) := by
        rintro (h | h)
        · have := hK0 _ h; omega
        · have := hx _ h; omega
      have hkB : ∀ {A B : World}, KeepsFrom w.heap.size A B → KeepsFrom W1.heap.size A B := fun h => ⟨h.size, fun k o hk ho hc => h.same k o (by omega) ho hc⟩
      have hput : ∀ (A : World) (o' : Obj), KeepsFrom W1.heap.size A (A.putObj (w.heap.size + 1) o') := fun A o' => ⟨by simp, fun k o hk ho _ => (World.putObj_heap_other (by omega)).trans ho⟩
      refine wpIn_mono (hbody _ pre x X a' _ (by omega) ⟨_, hl2⟩ (fun k h => ⟨hx k h, by simpa using hxA k h⟩) (hI.turn hi (Turned.putObj _ hl rfl (by omega))) ((hAx x a').putObj (s := ()) _ hax (by omega) hl rfl) hlen) ?_
      have fin : ∀ (jump : Option Code) (W3 : World), KeepsFrom w.heap.size (W.putObj (w.heap.size + 1) (.loop { rec .ready none with state := .busy })) W3 →
          (Instr.endRound (w.heap.size + 1) jump).run P W3 = .ok (.bool jump.isNone) (W3.putObj (w.heap.size + 1) (.loop (rec (if jump.isNone then .ready else .done) jump))) ∧
          W3.heap[w.heap.size + 1]? = some (.loop { rec .ready none with state := .busy }) ∧
          (W3.putObj (w.heap.size + 1) (.loop (rec (if jump.isNone then .ready else .done) jump))).heap[w.heap.size + 1]? = some (.loop (rec (if jump.isNone then .ready else .done) jump)) ∧
          (W3.putObj (w.heap.size + 1) (.loop (rec (if jump.isNone then .ready else .done) jump))).heap[w.heap.size]? = some (.deferred (some [])) ∧
          KeepsFrom W1.heap.size Wb (W3.putObj (w.heap.size + 1) (.loop (rec (if jump.isNone then .ready else .done) jump))) := fun jump W3 hk3 => by
        have hl3 := hk3.same _ _ (by omega) hl2 rfl
        have := run_endRound (P := P) jump hl3
        rw [hrec] at this ⊢
        exact ⟨this, by rw [hrec] at hl3; exact hl3, World.putObj_heap_same (Array.getElem?_eq_some_iff.1 hl3).1, (World.putObj_heap_other (by omega)).trans (hk3.same _ _ (Nat.le_refl _) hk2 rfl),
          (((hkB hkfa).trans (hput _ _)).trans (hkB hk3)).trans (hput _ _)⟩
      rintro e a3 W3 hp
      cases e with
      | normal =>
        obtain ⟨hk3, hkp3, hi3⟩ := hp
        obtain ⟨hr, hl3, hl4, hk4, hkf⟩ := fin none W3 hk3
        exact ⟨_, _, hr, hkf, .inl ⟨rfl, ⟨hI.turn hi3 (Turned.putObj _ hl3 rfl (by omega)), hl4, hk4, hx⟩, ((hkpa.trans (keepS_put _ hnS)).trans hkp3).trans (keepS_put _ hnS)⟩⟩
      | ret =>
        obtain ⟨hk3, hi3⟩ := hp
        obtain ⟨hr, hl3, hl4, hk4, hkf⟩ := fin (some .ret) W3 hk3
        exact ⟨_, _, hr, hkf, .inr ⟨rfl, .ret, (hIx _).turn hi3 (Turned.putObj _ hl3 rfl (by omega)), hl4, hk4, hx⟩⟩
      | exit id =>
        obtain ⟨hk3, hi3⟩ := hp
        obtain ⟨hr, hl3, hl4, hk4, hkf⟩ := fin (some (.exit id)) W3 hk3
        exact ⟨_, _, hr, hkf, .inr ⟨rfl, .exit id, (hIx _).turn hi3 (Turned.putObj _ hl3 rfl (by omega)), hl4, hk4, hx⟩⟩
      | goto t =>
        obtain ⟨hk3, hi3⟩ := hp
        obtain ⟨hr, hl3, hl4, hk4, hkf⟩ := fin (some (.goto t)) W3 hk3
        exact ⟨_, _, hr, hkf, .inr ⟨rfl, .goto t, (hIx _).turn hi3 (Turned.putObj _ hl3 rfl (by omega)), hl4, hk4, hx⟩⟩
      | panic ch => exact hp.elim
      | outgrown => exact hp.elim
    · rintro e W2 ⟨⟨v, rfl⟩, (⟨xs, X, hS, hi, hl, hk, hx⟩ | ⟨pre, X, hSp, c, hi, hl, hk, hx⟩)⟩
      · exact ⟨none, _, by have := run_endLoop (P := P) hl (by rw [hrec]; simp); rw [hrec] at this; exact this, hdone _ xs X _ (Nat.le_refl _) hS (hI.turn hi (Turned.putObj _ hl rfl (by omega))) ((World.putObj_heap_other (by omega)).trans hk)⟩
      · exact ⟨some c, _, by have := run_endLoop (P := P) hl (by rw [hrec]; simp); rw [hrec] at this; exact this, hstop _ c pre X _ (Nat.le_refl _) hSp ((hIx c).turn hi (Turned.putObj _ hl rfl (by omega))) ((World.putObj_heap_other (by omega)).trans hk)⟩
end Vt
end Go.Proofs.Ytifjjoobbegpoaa
