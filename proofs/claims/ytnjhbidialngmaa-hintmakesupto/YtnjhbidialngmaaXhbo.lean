/-
  A RANGE OVER AN ITERATOR THAT ITSELF RANGES OVER ANOTHER ONE AND YIELDS WITHIN (scan.Frames over located): a contract of one's own ('SeqX': X are the iterator's own blocks; the caller's invariant abides whatever is done to these, and to what is no cells and lies beyond the caller's beginning) and the caller's law over it.
  scan.Frames: its iterator ranges over located's and yields within: its contract by SeqX.
-/
import Derived.Test.YtnjhbidialngmaaXhbg
import Derived.Test.YtnjhbidialngmaaXhbi
namespace Go.Proofs.Ytnjhbidialngmaa
open Go.RowKit Go.Shelf
namespace Vt
/-- what an iterator may do between two rounds: its own blocks X, and what is no cells and lies at B or beyond -/
structure Turned (X : Nat → Prop) (B : Nat) (W W' : World) : Prop where
  os : W'.os = W.os
  tape : W'.tape = W.tape
  output : W'.output = W.output
  size : W.heap.size ≤ W'.heap.size
  block : ∀ (k : Nat) (o : Obj), W.heap[k]? = some o → ¬ X k → (o.isCells = true ∨ k < B) → W'.heap[k]? = some o
theorem Turned.refl (X : Nat → Prop) (B : Nat) (W : World) : Turned X B W W := ⟨rfl, rfl, rfl, Nat.le_refl _, fun _ _ h _ _ => h⟩
theorem Turned.trans {X : Nat → Prop} {B : Nat} {a b c : World} (h : Turned X B a b) (k : Turned X B b c) : Turned X B a c :=
  ⟨k.os.trans h.os, k.tape.trans h.tape, k.output.trans h.output, Nat.le_trans h.size k.size, fun i o hi hx ho => k.block i o (h.block i o hi hx ho) hx ho⟩
theorem Turned.mono {X Y : Nat → Prop} {B C : Nat} {a b : World} (h : Turned X B a b) (hX : ∀ k, X k → Y k) (hB : C ≤ B) : Turned Y C a b :=
  ⟨h.os, h.tape, h.output, h.size, fun i o hi hx ho => h.block i o hi (fun x => hx (hX i x)) (by rcases ho with ho | ho; exact .inl ho; exact .inr (by omega))⟩
theorem Turned.of_below {X : Nat → Prop} {B : Nat} {a b : World} (h : Below a.heap.size a b) : Turned X B a b :=
  ⟨h.os, h.tape, h.output, h.size, fun i _ hi _ _ => (h.block i (Array.getElem?_eq_some_iff.1 hi).1).trans hi⟩
theorem Turned.alloc {X : Nat → Prop} {B : Nat} (W : World) (o : Obj) : Turned X B W (W.alloc o) := Turned.of_below ((Below.refl _ _).alloc (Nat.le_refl _) _)
theorem Turned.putObj {X : Nat → Prop} {B : Nat} {W : World} {l : Nat} {o : Obj} (o' : Obj) (hl : W.heap[l]? = some o) (ho : o.isCells = false) (hB : B ≤ l) : Turned X B W (W.putObj l o') :=
  ⟨rfl, rfl, rfl, by simp, fun k q hk _ hq => by
    by_cases e : k = l
    · subst e; rw [hl] at hk; cases hk
      rcases hq with hq | hq
      · rw [ho] at hq; cases hq
      · omega
    · exact (World.putObj_heap_other e).trans hk⟩
theorem Turned.of_grown {X : Nat → Prop} {B : Nat} {W W' : World} {row : Option Nat} (hg : W.grownBy W' row) (hr : ∀ r, row = some r → B ≤ r ∧ ∃ o : Obj, W.heap[r]? = some o ∧ o.isCells = false) : Turned X B W W' :=
  ⟨hg.os, hg.tape, hg.output, hg.size, fun k q hk _ hq => by
    refine (hg.block k (Array.getElem?_eq_some_iff.1 hk).1 (fun e => ?_)).trans hk
    obtain ⟨h1, o, ho, hc⟩ := hr k e.symm
    rw [hk] at ho; cases ho
    rcases hq with hq | hq
    · rw [hc] at hq; cases hq
    · omega⟩
/-- the caller's invariant abides what the iterator does -/
def AbidesX {β : Type} (B : Nat) (J : β → (Nat → Prop) → World → Prop) : Prop :=
  ∀ s X X' W W', J s X W → Turned X B W W' → (∀ k, X' k → X k ∨ W.heap.size ≤ k) → J s X' W'
theorem AbidesX.turn {β : Type} {B : Nat} {J : β → (Nat → Prop) → World → Prop} (h : AbidesX B J) {s : β} {X : Nat → Prop} {W W' : World} (hs : J s X W) (ht : Turned X B W W') : J s X W' := h s X X W W' hs ht (fun _ x => .inl x)
theorem AbidesX.mono {β : Type} {B C : Nat} {J : β → (Nat → Prop) → World → Prop} (h : AbidesX B J) (hB : B ≤ C) : AbidesX C J :=
  fun s X X' W W' hs ht hX => h s X X' W W' hs (ht.mono (fun _ x => x) hB) hX
/-- THE CONTRACT: K0: what the rounds must keep of what lay ahead. -/
def SeqX {α : Type} (P : Program) (g : Nat) (lb : Array Value) (encs : α → Array Value) (K0 : Nat → Prop) (S Sp : List α → Prop) (N : Nat) (w : World) : Prop :=
  ∀ (l : Nat) (J Jx : List α → (Nat → Prop) → World → Prop) (W : World), Below w.heap.size w W → AbidesX W.heap.size J → AbidesX W.heap.size Jx →
    (∀ pre x X W1, J pre X W1 → (∀ k, X k → W.heap.size ≤ k ∧ k < W1.heap.size) → pre.length < N → YieldAt Fence.wide 0 P l (encs x) W1 fun e W' =>
      KeepsFrom W.heap.size W1 W' ∧ ((e = .returned (.bool true) ∧ J (pre ++ [x]) X W' ∧ KeepS (fun k => K0 k ∨ X k) W1 W') ∨ (e = .returned (.bool false) ∧ Jx (pre ++ [x]) X W'))) →
    J [] (fun _ => False) W →
    Calls P g (#[.func (.yield l) #[] #[]] ++ lb) W fun e W' => (∃ v, e = .returned v) ∧ ((∃ xs X, S xs ∧ J xs X W') ∨ (∃ pre X, Sp pre ∧ Jx pre X W'))
theorem RoundIn.any {n m : Nat} {P : Program} {l : Nat} {f : FuncId} {tmps : Array Value} {assign body : Code} {w : World} {R : Ending → World → Prop} (h : RoundIn Fence.wide n P l f tmps assign body w R) : RoundIn Fence.wide m P l f tmps assign body w R :=
  ⟨h.1, fun c cs _ => h.2 c cs (room_wide _)⟩
theorem YieldAt.any {n m : Nat} {P : Program} {l : Nat} {args : Array Value} {W : World} {R : Ending → World → Prop} (h : YieldAt Fence.wide n P l args W R) : YieldAt Fence.wide m P l args W R := by
  obtain ⟨fn, tmps, assign, body, hy, hR⟩ := h
  exact ⟨fn, tmps, assign, body, hy, RoundIn.any hR⟩
/-- how the body of a round may be left -/
def postX {α : Type} (B : Nat) (K0 X : Nat → Prop) (I : List α → (Nat → Prop) → World → Prop) (Ix : Code → List α → (Nat → Prop) → World → Prop) (xs : List α) (W : World) : Exit → Act → World → Prop
  | .normal, _, W' => KeepsFrom B W W' ∧ KeepS (fun k => K0 k ∨ X k) W W' ∧ I xs X W'
  | .ret, _, W' => KeepsFrom B W W' ∧ Ix .ret xs X W'
  | .exit id, _, W' => KeepsFrom B W W' ∧ Ix (.exit id) xs X W'
  | .goto t, _, W' => KeepsFrom B W W' ∧ Ix (.goto t) xs X W'
  | .panic _, _, _ => False
  | .outgrown, _, _ => False
theorem keepS_put {S : Nat → Prop} {W : World} {l : Nat} (o' : Obj) (hS : ¬ S l) : KeepS S W (W.putObj l o') :=
  ⟨rfl, rfl, rfl, by simp, fun k hk => World.putObj_heap_other (fun e => hS (e ▸ hk))⟩
/-- THE CALLER's LAW. -/
theorem wpIn_rangeFunc_X {α : Type} {n : Nat} {P : Program} {g : Operand} {ps : Array Tmp} {assign body : Code} {Q : Exit → Act → World → Prop} {a : Act} {w : World}
    {gf : Nat} {lb : Array Value} (hg : a.eval g = .func (.func gf) #[] lb) (eg : ∀ args w, (callFunc gf args).run P w = .ok (.enter gf args) w)
    {encs : α → Array Value} {K0 : Nat → Prop} {S Sp : List α → Prop} {N : Nat} {w0 : World} (hseq : SeqX P gf lb encs K0 S Sp N w0)
    (hK0 : ∀ k, K0 k → k < w.heap.size) (hb0 : Below w0.heap.size w0 w) (hps : ∀ x, (encs x).size = ps.size)
    (I : List α → (Nat → Prop) → World → Prop) (Ix : Code → List α → (Nat → Prop) → World → Prop) (hI : AbidesX w.heap.size I) (hIx : ∀ c, AbidesX w.heap.size (Ix c)) (h0 : I [] (fun _ => False) w) (Ax : α → Act → World → Prop) (hAx : ∀ x a', OwnFrom w.heap.size (fun (_ : Unit) W => Ax x a' W))
    (hassign : ∀ (l : Nat) (pre : List α) (x : α) (X : Nat → Prop) (W : World) (K : Act → World → Prop), I pre X W → (∀ k, X k → w.heap.size ≤ k ∧ k < W.heap.size) → (∀ a' W', KeepsFrom w.heap.size W W' → KeepS (fun k => K0 k ∨ X k) W W' → I pre X W' → Ax x a' W' → K a' W') →
      assign.wpIn (Fence.wide.inRound l) (n - 1 - 1) P (Exit.then K (fun _ _ _ => False)) { tmps := (ps.zip (encs x)).foldl (fun t (p, v) => t.setIfInBounds p v) a.tmps, defers := [] } W)
    (hbody : ∀ (l : Nat) (pre : List α) (x : α) (X : Nat → Prop) (a' : Act) (W : World), w.heap.size ≤ l → (∃ r, W.heap[l]? = some (.loop r)) → (∀ k, X k → w.heap.size + 2 ≤ k ∧ k < W.heap.size) → I pre X W → Ax x a' W → pre.length < N → body.wpIn (Fence.wide.inRound l) (n - 1 - 1) P (postX w.heap.size K0 X I Ix (pre ++ [x]) W) a' W)
    (hdone : ∀ (D : Nat) (xs : List α) (X : Nat → Prop) (W : World), w.heap.size ≤ D → S xs → I xs X W → W.heap[D]? = some (.deferred (some [])) → Q .normal { a with defers := { target := .collected D, args := #[] } :: a.defers } W)
    (hstop : ∀ (D : Nat) (c : Code) (pre : List α) (X : Nat → Prop) (W : World), w.heap.size ≤ D → Sp pre → Ix c pre X W → W.heap[D]? = some (.deferred (some [])) → c.wpIn Fence.wide n P Q { a with defers := { target := .collected D, args := #[] } :: a.defers } W) :
    (Code.rangeFunc g ps assign body).wpIn Fence.wide n P Q a w := by
  refine wpIn_rangeFunc ?_
  intro fn hfn
  show ∃ _, _
  obtain ⟨rec, hrec⟩ : ∃ rec : LoopState → Option Code → Loop, rec = fun st pe => { state := st, pending := pe, fn, tmps := a.tmps, params := ps, assign, body, defers := w.heap.size } := ⟨_, rfl⟩
  obtain ⟨W1, hW1⟩ : ∃ W1, (w.alloc (.deferred (some []))).alloc (.loop (rec .ready none)) = W1 := ⟨_, rfl⟩
  have hs1 : W1.heap.size = w.heap.size + 2 := by rw [← hW1]; simp
  have hL1 : W1.heap[w.heap.size + 1]? = some (.loop (rec .ready none)) := by
    rw [← hW1]; have := World.alloc_heap_new (w.alloc (.deferred (some []))) (.loop (rec .ready none)); rwa [World.size_alloc] at this
  have hK1 : W1.heap[w.heap.size]? = some (.deferred (some [])) := by
    rw [← hW1]; exact (Below.heap_alloc _ _ _ (by simp)).trans (World.alloc_heap_new w _)
  have hI1 : I [] (fun _ => False) W1 := by rw [← hW1]; exact hI.turn (hI.turn h0 (Turned.alloc _ _)) (Turned.alloc _ _)
  have hb1 : Below w0.heap.size w0 W1 := by
    rw [← hW1]; exact hb0.trans ((((Below.refl _ w).alloc (Nat.le_refl _) _).alloc (by simp) _).mono hb0.size)
  refine ⟨w.heap.size + 1, [{ target := .collected w.heap.size, args := #[] }], W1, { target := .fn (.func gf) lb, args := #[.func (.yield (w.heap.size + 1)) #[] #[]] }, W1, gf,
    #[.func (.yield (w.heap.size + 1)) #[] #[]] ++ lb, W1, ?_, ?_, ?_, ?_, ?_, ?_⟩
  · rw [← hW1, hrec]; exact run_enterLoop_outer _ _ _ _ _
  · simp only [resolve, hg]
    simp [go_sem]
  · intro f' hf'; exact trivial
  · simp [invoke, go_sem, eg]
  · intro h; cases h
  · refine callsIn_wide.2 (Calls.mono (hseq (w.heap.size + 1)
      (fun pre X W => I pre X W ∧ W.heap[w.heap.size + 1]? = some (.loop (rec .ready none)) ∧ W.heap[w.heap.size]? = some (.deferred (some [])) ∧ (∀ k, X k → w.heap.size + 2 ≤ k))
      (fun pre X W => ∃ c, Ix c pre X W ∧ W.heap[w.heap.size + 1]? = some (.loop (rec .done (some c))) ∧ W.heap[w.heap.size]? = some (.deferred (some [])) ∧ (∀ k, X k → w.heap.size + 2 ≤ k))
      W1 hb1
      (fun s X X' A B hs ht hX => ⟨hI s X X' A B hs.1 (ht.mono (fun _ x => x) (by omega)) hX, ht.block _ _ hs.2.1 (fun x => by have := hs.2.2.2 _ x; omega) (.inr (by omega)), ht.block _ _ hs.2.2.1 (fun x => by have := hs.2.2.2 _ x; omega) (.inr (by omega)), fun k hk => by
        rcases hX k hk with h | h
        · exact hs.2.2.2 k h
        · have := (Array.getElem?_eq_some_iff.1 hs.2.1).1; omega⟩)
      (fun s X X' A B hs ht hX => by
        obtain ⟨c, hc, hl, hk, hx⟩ := hs
        exact ⟨c, hIx c s X X' A B hc (ht.mono (fun _ x => x) (by omega)) hX, ht.block _ _ hl (fun x => by have := hx _ x; omega) (.inr (by omega)), ht.block _ _ hk (fun x => by have := hx _ x; omega) (.inr (by omega)), fun k hk' => by
          rcases hX k hk' with h | h
          · exact hx k h
          · have := (Array.getElem?_eq_some_iff.1 hl).1; omega⟩)
      ?_ ⟨hI1, hL1, hK1, fun _ h => h.elim⟩) ?_)
    · rintro pre x X W ⟨hi, hl, hk, hx⟩ hxB hlen
      have hlt : w.heap.size + 1 < W.heap.size := (Array.getElem?_eq_some_iff.1 hl).1
      have hy := run_yield (P := P) (args := encs x) hl (by rw [hrec]; exact hps x)
      rw [hrec] at hy
      refine ⟨fn, _, assign, body, hy, RoundIn.any (n := n - 1 - 1) (roundIn_of_wpIn hfn (hassign _ pre x X W _ hi (fun k h => ⟨by have := hx k h; omega, (hxB k h).2⟩) ?_))⟩
      clear hy
      intro a' Wa hkfa hkpa hia hax
      replace hl := hkfa.same _ _ (by omega) hl rfl
      replace hk := hkfa.same _ _ (Nat.le_refl _) hk rfl
      replace hlt : w.heap.size + 1 < Wa.heap.size := (Array.getElem?_eq_some_iff.1 hl).1
      replace hi := hia
      clear hia
      have hxA : ∀ k, X k → k < Wa.heap.size := fun k h => Nat.lt_of_lt_of_le (hxB k h).2 hkfa.size
      clear hxB
      revert hkpa hkfa
      generalize W = Wb
      intro hkfa hkpa
      obtain ⟨W, rfl⟩ : ∃ W, W = Wa := ⟨_, rfl⟩
      refine ⟨_, run_beginRound hl (by rw [hrec]), ?_⟩
      have hl2 : (W.putObj (w.heap.size + 1) (.loop { rec .ready none with state := .busy })).heap[w.heap.size + 1]? = some (.loop { rec .ready none with state := .busy }) := World.putObj_heap_same hlt
      have hk2 : (W.putObj (w.heap.size + 1) (.loop { rec .ready none with state := .busy })).heap[w.heap.size]? = some (.deferred (some [])) := (World.putObj_heap_other (by omega)).trans hk
      have hnS : ¬ (K0 (w.heap.size + 1) ∨ X (w.heap.size + 1)) := by
        rintro (h | h)
        · have := hK0 _ h; omega
        · have := hx _ h; omega
      have hkB : ∀ {A B : World}, KeepsFrom w.heap.size A B → KeepsFrom W1.heap.size A B := fun h => ⟨h.size, fun k o hk ho hc => h.same k o (by omega) ho hc⟩
      have hput : ∀ (A : World) (o' : Obj), KeepsFrom W1.heap.size A (A.putObj (w.heap.size + 1) o') := fun A o' => ⟨by simp, fun k o hk ho _ => (World.putObj_heap_other (by omega)).trans ho⟩
      refine wpIn_mono (hbody _ pre x X a' _ (by omega) ⟨_, hl2⟩ (fun k h => ⟨hx k h, by simpa using hxA k h⟩) (hI.turn hi (Turned.putObj _ hl rfl (by omega))) ((hAx x a').putObj (s := ()) _ hax (by omega) hl rfl) hlen) ?_
      have fin : ∀ (jump : Option Code) (W3 : World), KeepsFrom w.heap.size (W.putObj (w.heap.size + 1) (.loop { rec .ready none with state := .busy })) W3 →
          (Instr.endRound (w.heap.size + 1) jump).run P W3 = .ok (.bool jump.isNone) (W3.putObj (w.heap.size + 1) (.loop (rec (if jump.isNone then .ready else .done) jump))) ∧
          W3.heap[w.heap.size + 1]? = some (.loop { rec .ready none with state := .busy }) ∧
          (W3.putObj (w.heap.size + 1) (.loop (rec (if jump.isNone then .ready else .done) jump))).heap[w.heap.size + 1]? = some (.loop (rec (if jump.isNone then .ready else .done) jump)) ∧
          (W3.putObj (w.heap.size + 1) (.loop (rec (if jump.isNone then .ready else .done) jump))).heap[w.heap.size]? = some (.deferred (some [])) ∧
          KeepsFrom W1.heap.size Wb (W3.putObj (w.heap.size + 1) (.loop (rec (if jump.isNone then .ready else .done) jump))) := fun jump W3 hk3 => by
        have hl3 := hk3.same _ _ (by omega) hl2 rfl
        have := run_endRound (P := P) jump hl3
        rw [hrec] at this ⊢
        exact ⟨this, by rw [hrec] at hl3; exact hl3, World.putObj_heap_same (Array.getElem?_eq_some_iff.1 hl3).1, (World.putObj_heap_other (by omega)).trans (hk3.same _ _ (Nat.le_refl _) hk2 rfl),
          (((hkB hkfa).trans (hput _ _)).trans (hkB hk3)).trans (hput _ _)⟩
      rintro e a3 W3 hp
      cases e with
      | normal =>
        obtain ⟨hk3, hkp3, hi3⟩ := hp
        obtain ⟨hr, hl3, hl4, hk4, hkf⟩ := fin none W3 hk3
        exact ⟨_, _, hr, hkf, .inl ⟨rfl, ⟨hI.turn hi3 (Turned.putObj _ hl3 rfl (by omega)), hl4, hk4, hx⟩, ((hkpa.trans (keepS_put _ hnS)).trans hkp3).trans (keepS_put _ hnS)⟩⟩
      | ret =>
        obtain ⟨hk3, hi3⟩ := hp
        obtain ⟨hr, hl3, hl4, hk4, hkf⟩ := fin (some .ret) W3 hk3
        exact ⟨_, _, hr, hkf, .inr ⟨rfl, .ret, (hIx _).turn hi3 (Turned.putObj _ hl3 rfl (by omega)), hl4, hk4, hx⟩⟩
      | exit id =>
        obtain ⟨hk3, hi3⟩ := hp
        obtain ⟨hr, hl3, hl4, hk4, hkf⟩ := fin (some (.exit id)) W3 hk3
        exact ⟨_, _, hr, hkf, .inr ⟨rfl, .exit id, (hIx _).turn hi3 (Turned.putObj _ hl3 rfl (by omega)), hl4, hk4, hx⟩⟩
      | goto t =>
        obtain ⟨hk3, hi3⟩ := hp
        obtain ⟨hr, hl3, hl4, hk4, hkf⟩ := fin (some (.goto t)) W3 hk3
        exact ⟨_, _, hr, hkf, .inr ⟨rfl, .goto t, (hIx _).turn hi3 (Turned.putObj _ hl3 rfl (by omega)), hl4, hk4, hx⟩⟩
      | panic ch => exact hp.elim
      | outgrown => exact hp.elim
    · rintro e W2 ⟨⟨v, rfl⟩, (⟨xs, X, hS, hi, hl, hk, hx⟩ | ⟨pre, X, hSp, c, hi, hl, hk, hx⟩)⟩
      · exact ⟨none, _, by have := run_endLoop (P := P) hl (by rw [hrec]; simp); rw [hrec] at this; exact this, hdone _ xs X _ (Nat.le_refl _) hS (hI.turn hi (Turned.putObj _ hl rfl (by omega))) ((World.putObj_heap_other (by omega)).trans hk)⟩
      · exact ⟨some c, _, by have := run_endLoop (P := P) hl (by rw [hrec]; simp); rw [hrec] at this; exact this, hstop _ c pre X _ (Nat.le_refl _) hSp ((hIx c).turn hi (Turned.putObj _ hl rfl (by omega))) ((World.putObj_heap_other (by omega)).trans hk)⟩
end Vt
end Go.Proofs.Ytnjhbidialngmaa
namespace Go.Proofs.Ytnjhbidialngmaa
open Go.RowKit Go.Shelf
namespace Vt
attribute [local go_sem] Oper.semAt_some
/-- 'scan.Frames(b)': b is boxed; the function value captures the box. -/
theorem frames_is (a : Option Addr) (len cap : Nat) (w : World) :
    Calls Try.prog 84 #[.slice a len cap] w fun e w' => e = .returned (.func (.func 99) #[] #[.pointer (some ⟨w.heap.size, 0, none⟩)]) ∧ w' = w.alloc (.cells #[.slice a len cap] 36) := by
  go_enter Try.func84, Try.ntmps84
  go_wp2
  go_ret
  exact ⟨rfl, rfl⟩
/-- a frame's cells -/
def frv (f : Fr) : List Value := [.int .i64 f.kind, .int .u64 (f.r.lsn : Int), .int .i64 f.r.kind, .string f.r.key, .string f.r.val, .int .u64 (f.p.lsn : Int), .int .i64 f.p.kind, .int .i64 f.p.at_, .int .i64 f.p.len, .string f.p.key, .int .i64 f.e.count, .int .i64 f.e.bytes, .int .i64 f.e.frames, .int .u32 (f.e.sum : Int)]
abbrev enc2 {B : Nat} (x : PL B) : Array Value := #[.int .i64 (x.1.1 : Int), .agg (frv x.1.2.2).toArray]
set_option maxRecDepth 100000 in
set_option maxHeartbeats 2000000 in
theorem frames_seq (K0 : Nat → Prop) (Bs : Nat) (sv : Value) (zs : List Nat) (w : World) (hBl : Bs < w.heap.size) (hK0 : ∀ k, K0 k → k < w.heap.size)
    (hc : w.cell? ⟨Bs, 0, none⟩ = some sv) (hI : IsB w sv zs) (hlow : ∀ b off c, zs ≠ [] → sv = .slice (some ⟨b, off, none⟩) zs.length c → K0 b) :
    SeqX Try.prog 99 #[.pointer (some ⟨Bs, 0, none⟩)] (enc2 (B := zs.length)) K0 (fun ys => ys.map Subtype.val = locs 0 zs) (fun pre => pre.map Subtype.val <+: locs 0 zs) zs.length w := by
  intro lr J Jx W hW hJ hJx hY h0
  obtain ⟨a, c, rfl⟩ := hI.shape
  have hc' := (hW.cell (p := ⟨Bs, 0, none⟩) hBl).trans hc
  have HI := hd (hI.below hW)
  have HLO := hd hlow
  have HK0 : Hid (∀ k, K0 k → k < W.heap.size) := fun k hk => Nat.lt_of_lt_of_le (hK0 k hk) hW.size
  have HY := hd hY
  have HJ0 := hd h0
  have HJ := hd hJ
  have HJX := hd hJx
  have hBW : Bs < W.heap.size := Nat.lt_of_lt_of_le hBl hW.size
  have n1 : ¬ Bs = W.heap.size := by omega
  have n2 : ¬ W.heap.size = Bs := by omega
  have hcA : ∀ o, (W.alloc o).cell? ⟨Bs, 0, none⟩ = some (.slice a zs.length c) := fun o => (((Below.refl _ W).alloc (Nat.le_refl _) o).cell (p := ⟨Bs, 0, none⟩) hBW).trans hc'
  clear hI hlow hK0 hY h0 hJ hJx hc hW hBl
  refine (callsIn_wide (n := 8)).1 ?_
  refine callsIn_of_wp_marks Try.func99 rfl trivial (Code.wpIn_mono bodyPostF_M ?_) rfl
  simp only [Try.ntmps99, List.size_toArray, List.length_cons, List.length_nil, Nat.reduceAdd, Nat.reduceSub, Array.replicate_succ, Array.replicate_zero, List.push_toArray, List.append_toArray, List.nil_append, List.cons_append]
  gi_wp2
  refine ⟨trivial, CallsIn.mono (callsIn_wide.2 (located_is _ _ _ _ _)) ?_⟩
  rintro e w4 ⟨rfl, hw4⟩
  obtain ⟨N, hN⟩ : ∃ N, N = W.heap.size := ⟨_, rfl⟩
  have hs4 : w4.heap.size = N + 3 := by rw [hw4, hN]; simp
  have hB4 : Hid (Below W.heap.size W w4) := by rw [hw4]; exact (((Below.refl _ _).alloc (Nat.le_refl _) _).alloc (by simp) _).alloc (by simp; omega) _
  have BY4 : Hid (Boxed w4 N 142 (.func (.yield lr) #[] #[])) := by rw [hw4, hN]; exact ((Boxed.new W 142 _).alloc _).alloc _
  have BB4 : Hid (Boxed w4 (N + 1) 36 (.slice a zs.length c)) := by
    have := Boxed.new (W.alloc (.cells #[.func (.yield lr) #[] #[]] 142)) 36 (.slice a zs.length c)
    rw [World.size_alloc, ← hN] at this
    rw [hw4]; exact this.alloc _
  have BF4 : Hid (Boxed w4 (N + 2) 3 (.int .i64 0)) := by
    have := Boxed.new ((W.alloc (.cells #[.func (.yield lr) #[] #[]] 142)).alloc (.cells #[.slice a zs.length c] 36)) 3 (.int .i64 0)
    rw [World.size_alloc, World.size_alloc, ← hN] at this
    rw [hw4]; exact this
  simp only [World.size_alloc]
  rw [← hN] at hB4 ⊢
  have HN := hd hN
  have HX : Hid (J [] (fun k => k = N ∨ k = N + 1) w4) := HJ.out [] _ _ W w4 HJ0.out (Turned.of_below (hN ▸ hB4.out)) (fun k hk => Or.inr (by omega))
  have hseq := located_stops 7 (by omega) zs.length (fun k => K0 k ∨ (k = N ∨ k = N + 1)) (N + 1) (N + 1 + 1) (.slice a zs.length c) 0 zs w4 (Nat.le_refl _) (Or.inr (Or.inr rfl)) (by omega) (by omega) (fun k hk => by rcases hk with hk | hk; have := HK0.out k hk; omega; omega) BB4.out.cell BF4.out.cell (HI.out.below (hN ▸ hB4.out)) (fun b off c' hne e => Or.inl (HLO.out b off c' hne e))
  have hfrm : frm zs.length 0 = 0 := by unfold frm; simp
  rw [hfrm, List.drop_zero] at hseq
  have HSQ := hd hseq
  have hSlt : ∀ V : World, N + 3 ≤ V.heap.size → ∀ k, (K0 k ∨ (k = N ∨ k = N + 1)) → k < V.heap.size   := fun V hV k hk => by rcases hk with hk | hk; have := HK0.out k hk; omega; omega
  have HSL := hd hSlt
  clear hseq hfrm hw4 hN hcA hc' n1 n2 hBW hSlt
  gi_wp2
  refine wpIn_rangeFunc_ownH rfl (by omega) (gf := 98) (lb := #[.pointer (some ⟨N + 1, 0, none⟩), .pointer (some ⟨N + 1 + 1, 0, none⟩)]) rfl trivial (enters_of Try.func98 (by kernel_rfl) rfl) HSQ.out keepS_t (keepS_b (HSL.out _ (by omega))) (Below.refl _ _) (fun _ => rfl)
    (fun (pre : List (PL zs.length)) (V : World) => J pre (fun k => k = N ∨ k = N + 1) V ∧ Boxed V N 142 (.func (.yield lr) #[] #[]) ∧ w4.heap.size ≤ V.heap.size)
    (fun cd (pre : List (PL zs.length)) (V : World) => cd = .ret ∧ Jx pre (fun k => k = N ∨ k = N + 1) V)
    (fun s V V' row hs hg hr => ⟨HJ.out.turn hs.1 (Turned.of_grown hg (fun r e => ⟨by have := (hr r e).1; have := HN.out; omega, (hr r e).2⟩)), Boxed.keptO hs.2.1 hg (fun r e => (hr r e).2), Nat.le_trans hs.2.2 hg.size⟩)
    (fun cd s V V' row hs hg hr => ⟨hs.1, HJX.out.turn hs.2 (Turned.of_grown hg (fun r e => ⟨by have := (hr r e).1; have := HN.out; omega, (hr r e).2⟩))⟩)
    ⟨HX.out, BY4.out, Nat.le_refl _⟩
    (fun (x : PL zs.length) a' V => ∃ Bx, N + 3 ≤ Bx ∧ Blk V Bx 72 (lcv x.1) ∧ a' = { tmps := #[.func (.yield lr) #[] #[], Value.pointer (some { block := Bs, off := 0 }), Value.pointer (some { block := N, off := 0 }), Value.pointer (some { block := Bx, off := 0 }), Value.slice a zs.length c, Value.func (Fn.func 98) #[] #[Value.pointer (some { block := N + 1, off := 0 }), Value.pointer (some { block := N + 1 + 1, off := 0 })], .agg (lcv x.1).toArray, undef, undef, undef, undef, undef, undef, undef], defers := [] })
    (fun x a' _ V V' row hs hg hr => by
      obtain ⟨Bx, h1, h2, h3⟩ := hs
      refine ⟨Bx, h1, h2.grown hg (fun e => ?_), h3⟩
      obtain ⟨o, ho, hc⟩ := (hr Bx e.symm).2
      have h2' : V.heap[Bx]? = _ := h2
      rw [h2'] at ho
      injection ho with ho
      rw [← ho] at hc
      cases hc)
    ?assign ?body ?done ?stop
  case assign =>
    rintro lk pre ⟨⟨x1, x2, k, ⟨rl, rk, rkey, rval⟩, ⟨pl, pk, pa, pn, pkey⟩, ⟨ec, eb, ef, es⟩⟩, hx⟩ V K ⟨h1, h2, h3⟩ hK
    simp only [encl, lcv]
    gi_wp2
    exact hK _ _ ((KeepsOthers.alloc _ _).from _) ((KeepS.refl _).alloc (HSL.out _ (by omega)) _) ⟨HJ.out.turn h1 (Turned.alloc _ _), h2.alloc _, by simp; omega⟩ ⟨V.heap.size, by omega, Blk.new V 72 (lcv (x1, x2, ⟨k, ⟨rl, rk, rkey, rval⟩, ⟨pl, pk, pa, pn, pkey⟩, ⟨ec, eb, ef, es⟩⟩)), rfl⟩
  case body =>
    rintro lk pre ⟨⟨x1, x2, k, ⟨rl, rk, rkey, rval⟩, ⟨pl, pk, pa, pn, pkey⟩, ⟨ec, eb, ef, es⟩⟩, hx⟩ a' V hlk _ ⟨hj, hby, hsz⟩ ⟨Bx, hBx, hblk, rfl⟩ hlen
    have hmx : Try.prog.follows .mixedOrders = true := by kernel_rfl
    have c0 := hblk.cell 0 _ rfl
    have c1 := hblk.cell 1 _ rfl
    have c2 := hblk.cell 2 _ rfl
    have c3 := hblk.cell 3 _ rfl
    have c4 := hblk.cell 4 _ rfl
    have c5 := hblk.cell 5 _ rfl
    have c6 := hblk.cell 6 _ rfl
    have c7 := hblk.cell 7 _ rfl
    have c8 := hblk.cell 8 _ rfl
    have c9 := hblk.cell 9 _ rfl
    have c10 := hblk.cell 10 _ rfl
    have c11 := hblk.cell 11 _ rfl
    have c12 := hblk.cell 12 _ rfl
    have c13 := hblk.cell 13 _ rfl
    have c14 := hblk.cell 14 _ rfl
    have cy := hby.cell
    have HY1 := YieldAt.any (m := 5) (HY.out pre ⟨(x1, x2, ⟨k, ⟨rl, rk, rkey, rval⟩, ⟨pl, pk, pa, pn, pkey⟩, ⟨ec, eb, ef, es⟩⟩), hx⟩ (fun k => k = N ∨ k = N + 1) V hj (fun k hk => ⟨by have := HN.out; omega, by omega⟩) hlen)
    obtain ⟨fn, tmps, assign, body, hy, hR⟩ := HY1
    simp only [enc2, frv] at hy
    have HR := hd hR
    have HBY := hd hby
    clear hR hby HY
    gi_wp2
    refine RoundIn.mono HR.out ?_
    rintro e W3 ⟨hkf, ⟨rfl, hJ3, hk3⟩ | ⟨rfl, hJx3⟩⟩
    · have HF := hd hkf
      have HJ3 := hd hJ3
      have HK3 := hd hk3
      clear hkf hJ3 hk3
      gi_wp2
      exact ⟨⟨HF.out.size, fun k o hk ho hc => HF.out.same k o (by have := HN.out; omega) ho hc⟩, HK3.out, HJ3.out, boxed_keepS HBY.out (Or.inr (Or.inl rfl)) HK3.out, Nat.le_trans hsz HF.out.size⟩
    · have HF := hd hkf
      have HJ3 := hd hJx3
      clear hkf hJx3
      gi_wp2
      exact ⟨⟨HF.out.size, fun k o hk ho hc => HF.out.same k o (by have := HN.out; omega) ho hc⟩, rfl, HJ3.out⟩
  case done =>
    rintro D ys V hD hys ⟨hj, hby, hsz⟩ hKD
    have HJD := hd hj
    have HKD := hd hKD
    have HYS := hd hys
    clear hj hKD hys
    gi_wp2
    refine ⟨by simp, .inl ⟨_, _, rfl, run_takeDeferred HKD.out, ?_⟩⟩
    refine ⟨_, results_none rfl _ _ _, ⟨_, rfl⟩, .inl ⟨ys, _, HYS.out, HJ.out.turn HJD.out (Turned.putObj _ HKD.out rfl (by have := HN.out; omega))⟩⟩
  case stop =>
    rintro D c2 pre V hD hp ⟨rfl, hj⟩ hKD
    have HJD := hd hj
    have HKD := hd hKD
    have HP := hd hp
    clear hj hKD hp
    gi_wp2
    refine ⟨by simp, .inl ⟨_, _, rfl, run_takeDeferred HKD.out, ?_⟩⟩
    refine ⟨_, results_none rfl _ _ _, ⟨_, rfl⟩, .inr ⟨pre, _, HP.out, HJX.out.turn HJD.out (Turned.putObj _ HKD.out rfl (by have := HN.out; omega))⟩⟩
end Vt
end Go.Proofs.Ytnjhbidialngmaa
