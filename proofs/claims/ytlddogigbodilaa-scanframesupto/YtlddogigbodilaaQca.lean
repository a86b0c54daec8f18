/-
  THE LAW's kept AND turned (stage 5).
  A frame behind a region whose operations write neighbouring slots, told at once. No condition beyond those that the theorem bears.
  A RANGE OVER SUCH AN ITERATOR (Rfx: SeqX) WITHIN ANOTHER RANGE's BODY.
-/
import Derived.Test.YtlddogigbodilaaQbe
import Derived.Test.YtlddogigbodilaaQbh
namespace Go.Proofs.Ytlddogigbodilaa
open Go.RowKit
namespace Vt
set_option maxRecDepth 100000 in
set_option maxHeartbeats 1000000 in
theorem skept_is (g cap : Nat) (v : Value) (l : List Nat) (w : World) (hG : Buf w g cap (mk8 l)) (hI : IsB w v l) :
    Calls Try.prog 12 #[.slice (some ⟨g, 0, none⟩) l.length cap, v] w fun e w' => e = .returned (.bool true) ∧ ∃ n, w' = w.drewN n := by
  have HG := hd hG
  have HI := hd hI
  have hcap : l.length + 8 ≤ cap := by have := hG.1; rw [mk8_len] at this; exact this
  have hcm := hG.2.1
  unfold maxLen at hcm
  obtain ⟨a, c, rfl⟩ := hI.shape
  clear hG hI
  go_enter Try.func12, Try.ntmps12
  go_wp2_with fail
  go_loopw [4, 6] (fun o i wr => ∃ k n : Nat, k ≤ l.length + 8 ∧ o = .bool false ∧ i = .int .i64 (k : Int) ∧ wr = w.drewN n) (fun _ i _ => l.length + 8 - (intOf i).toNat)
  case atStart => exact ⟨0, 0, by omega, rfl, rfl, rfl⟩
  case round =>
    obtain ⟨k, n, hk, rfl, rfl, hwr⟩ := hrel
    have HWR := hd hwr
    by_cases hlt : k < l.length + 8
    · have cg : wr.cell? ⟨g, k, none⟩ = some (.int .u8 (((mk8 l).getD k 0 : Nat) : Int)) := by rw [hwr]; exact HG.out.cell (j := k) (by rw [mk8_len]; exact hlt)
      by_cases hin : k < l.length
      · rw [mk8_lo hin] at cg
        obtain ⟨_, _, ⟨rfl, _⟩ | ⟨bb, oo, cc, e, hlc, _, hbb, hrow⟩⟩ := HI.out
        · simp at hin
        · injection e with e1 e2 e3
          subst e1 e3
          have cb : wr.cell? ⟨bb, oo + k, none⟩ = some (.int .u8 ((l.getD k 0 : Nat) : Int)) := by rw [hwr]; exact hrow k hin
          generalize l.getD k 0 = p at cg cb
          clear hrow hwr
          have hin4 : ¬ l.length ≤ k := by omega
          go_wp2_with fail
          go_quiet (fail)
          go_wp2_with fail
          go_roundw
          case rel =>
            obtain ⟨q2, h2⟩ := drewN2 w n nq
            exact ⟨k + 1, q2, by omega, rfl, by go_num, by rw [HWR.out]; exact h2⟩
          case measure => simp [intOf]; omega
      · rw [mk8_hi (by omega) hlt] at cg
        have hin2 : ¬ ((k : Nat) : Int) < (l.length : Int) := by omega
        have hin3 : (l.length : Int) ≤ (k : Int) := by omega
        clear hwr
        go_wp2_with fail
        go_quiet (fail)
        go_wp2_with fail
        go_roundw
        case rel =>
          obtain ⟨q2, h2⟩ := drewN2 w n nq
          exact ⟨k + 1, q2, by omega, rfl, by go_num, by rw [HWR.out]; exact h2⟩
        case measure => simp [intOf]; omega
    · obtain rfl : k = l.length + 8 := by omega
      go_wp2_with fail
      go_ret
      exact ⟨by simp, n, by first | exact HWR.out | rfl⟩
set_option maxRecDepth 100000 in
set_option maxHeartbeats 400000 in
theorem sturned_is (g cap m base : Nat) (F : List Nat) (w : World) (hG : Buf w g cap F) (hm : m ≤ F.length) (hbase : base ≤ g) :
    Calls Try.prog 13 #[.slice (some ⟨g, 0, none⟩) m cap] w fun e w' => (∃ v, e = .returned v) ∧ (∃ F', F'.length = F.length ∧ Buf w' g cap F') ∧ Below base w w' := by
  have HG := hd hG
  have hcm : F.length ≤ 9223372036854775807 := by have := hG.1; have := hG.2.1; unfold maxLen at this; omega
  clear hG
  go_enter Try.func13, Try.ntmps13
  go_wp2_with fail
  go_loopw [2] (fun i wr => ∃ k : Nat, k ≤ m ∧ i = .int .i64 (k : Int) ∧ (∃ F', F'.length = F.length ∧ Buf wr g cap F') ∧ Below base w wr) (fun i _ => m - (intOf i).toNat)
  case atStart => exact ⟨0, by omega, rfl, ⟨F, rfl, HG.out⟩, Below.refl _ _⟩
  case round =>
    obtain ⟨k, hk, rfl, ⟨F', hF, hB'⟩, hB⟩ := hrel
    have HF := hd hB'
    have HB := hd hB
    clear hB' hB HG
    by_cases hlt : k < m
    · have hcell := HF.out.cell (j := k) (by omega)
      have hfro := HF.out.2.2.2.2.2 k (by omega)
      have hp := getD_lt HF.out.2.2.2.1 k
      obtain ⟨y, hy⟩ : ∃ y, y = 1 + k % 2 := ⟨_, rfl⟩
      have hy2 : y < 256 := by omega
      have HS := hd (HF.out.set (j := k) (y := F'.getD k 0 ^^^ y) (by omega) (Nat.xor_lt_two_pow (n := 8) hp hy2))
      have HX := hd (u8_xor_nat (F'.getD k 0) y hp hy2)
      generalize F'.getD k 0 = p at *
      have HY := hd hy
      clear hy
      go_wp2_with fail
      rw [show (1 : Int) + (k : Int) % 2 = (y : Int) by rw [HY.out]; omega, HX.out]
      go_roundw
      case rel => exact ⟨k + 1, by omega, by go_num, ⟨_, by rw [List.length_set]; exact hF, HS.out⟩, HB.out.setCell (p := ⟨g, k, none⟩) hbase _⟩
      case measure => simp [intOf]; omega
    · obtain rfl : k = m := by omega
      go_wp2_with fail
      go_end0
      exact ⟨⟨_, rfl⟩, ⟨F', hF, HF.out⟩, HB.out⟩
end Vt
end Go.Proofs.Ytlddogigbodilaa
namespace Go.Proofs.Ytlddogigbodilaa
open Go Go.RowKit
/-- all that the region writes lies from lo on, below hi -/
def dstsIn (ops : Array Oper) (lo hi : Nat) : Bool := (List.range ops.size).all fun j => match dstOf ops j with
  | none => true
  | some d => decide (lo ≤ d) && decide (d < hi)
theorem dstsIn_spec {ops : Array Oper} {lo hi k : Nat} (h : dstsIn ops lo hi = true) (hk : k < lo ∨ hi ≤ k) : ∀ j, j < ops.size → dstOf ops j ≠ some k := by
  intro j hj e
  have := List.all_eq_true.1 h j (by simpa using hj)
  rw [e] at this
  simp only [Bool.and_eq_true, decide_eq_true_eq] at this
  omega
theorem tmps_of {ops : Array Oper} {t t0 : Array Value} {lo : Nat} {vs : List Value} (hs : t.size = t0.size) (hd : dstsIn ops lo (lo + vs.length) = true) (hlo : lo + vs.length ≤ t0.size)
    (hout : ∀ k, (∀ j, j < ops.size → dstOf ops j ≠ some k) → t.getD k undef = t0.getD k undef) (hin : ∀ i, i < vs.length → t.getD (lo + i) undef = vs.getD i undef) :
    t = (t0.toList.take lo ++ (vs ++ t0.toList.drop (lo + vs.length))).toArray := by
  have hl0 : t0.toList.length = t0.size := Array.length_toList
  refine arr_one (by simp only [List.size_toArray, List.length_append, List.length_take, List.length_drop, hl0]; omega) fun k hk => ?_
  have e : ∀ X : List Value, X.toArray.getD k undef = X[k]?.getD undef := fun X => by rw [Array.getD_eq_getD_getElem?]; simp
  refine Eq.trans ?_ (e _).symm
  rw [Array.getD_eq_getD_getElem?]
  clear e
  by_cases h1 : k < lo
  · have := hout k (dstsIn_spec hd (.inl h1))
    rw [Array.getD_eq_getD_getElem?, Array.getD_eq_getD_getElem?] at this
    rw [this, List.getElem?_append_left (by rw [List.length_take, hl0]; omega), List.getElem?_take_of_lt h1, Array.getElem?_toList]
  · rw [List.getElem?_append_right (by rw [List.length_take, hl0]; omega), List.length_take, hl0, Nat.min_eq_left (by omega)]
    by_cases h2 : k < lo + vs.length
    · have := hin (k - lo) (by omega)
      rw [Array.getD_eq_getD_getElem?, List.getD_eq_getElem?_getD, show lo + (k - lo) = k by omega] at this
      rw [this, List.getElem?_append_left (by omega)]
    · have := hout k (dstsIn_spec hd (.inr (by omega)))
      rw [Array.getD_eq_getD_getElem?, Array.getD_eq_getD_getElem?] at this
      rw [this, List.getElem?_append_right (by omega), List.getElem?_drop, Array.getElem?_toList]
      congr 2
      omega
end Go.Proofs.Ytlddogigbodilaa
namespace Go.Proofs.Ytlddogigbodilaa
open Go.RowKit Go.Shelf
namespace Vt
theorem wpIn_rangeFunc_XN {α : Type} {n : Nat} {P : Program} {g : Operand} {ps : Array Tmp} {assign body : Code} {Q : Exit → Act → World → Prop} {a : Act} {w : World}
    {l₀ : Nat} {r₀ : Loop} (hl₀ : w.heap[l₀]? = some (.loop r₀)) {gf : Nat} {lb : Array Value} (hg : a.eval g = .func (.func gf) #[] lb) (eg : ∀ args w, (callFunc gf args).run P w = .ok (.enter gf args) w)
    {encs : α → Array Value} {K0 : Nat → Prop} {S Sp : List α → Prop} {N : Nat} {w0 : World} (hseq : SeqX P gf lb encs K0 S Sp N w0)
    (hK0 : ∀ k, K0 k → k < w.heap.size) (hb0 : Below w0.heap.size w0 w) (hps : ∀ x, (encs x).size = ps.size)
    (I : List α → (Nat → Prop) → World → Prop) (Ix : Code → List α → (Nat → Prop) → World → Prop) (hI : AbidesX w.heap.size I) (hIx : ∀ c, AbidesX w.heap.size (Ix c)) (h0 : I [] (fun _ => False) w) (Ax : α → Act → World → Prop) (hAx : ∀ x a', OwnFrom w.heap.size (fun (_ : Unit) W => Ax x a' W))
    (hassign : ∀ (l : Nat) (pre : List α) (x : α) (X : Nat → Prop) (W : World) (K : Act → World → Prop), I pre X W → (∀ k, X k → w.heap.size ≤ k ∧ k < W.heap.size) → (∀ a' W', KeepsFrom w.heap.size W W' → KeepS (fun k => K0 k ∨ X k) W W' → I pre X W' → Ax x a' W' → K a' W') →
      assign.wpIn (Fence.wide.inRound l) (n - 1 - 1) P (Exit.then K (fun _ _ _ => False)) { tmps := (ps.zip (encs x)).foldl (fun t (p, v) => t.setIfInBounds p v) a.tmps, defers := [] } W)
    (hbody : ∀ (l : Nat) (pre : List α) (x : α) (X : Nat → Prop) (a' : Act) (W : World), w.heap.size ≤ l → (∃ r, W.heap[l]? = some (.loop r)) → (∀ k, X k → w.heap.size + 1 ≤ k ∧ k < W.heap.size) → I pre X W → Ax x a' W → pre.length < N → body.wpIn (Fence.wide.inRound l) (n - 1 - 1) P (postX w.heap.size K0 X I Ix (pre ++ [x]) W) a' W)
    (hdone : ∀ (xs : List α) (X : Nat → Prop) (W : World), S xs → I xs X W → Q .normal a W)
    (hstop : ∀ (c : Code) (pre : List α) (X : Nat → Prop) (W : World), Sp pre → Ix c pre X W → c.wpIn (Fence.wide.inRound l₀) n P Q a W) :
    (Code.rangeFunc g ps assign body).wpIn (Fence.wide.inRound l₀) n P Q a w := by
  refine wpIn_rangeFunc ?_
  intro fn hfn
  show ∃ _, _
  obtain ⟨rec, hrec⟩ : ∃ rec : LoopState → Option Code → Loop, rec = fun st pe => { state := st, pending := pe, fn, tmps := a.tmps, params := ps, assign, body, defers := r₀.defers } := ⟨_, rfl⟩
  obtain ⟨W1, hW1⟩ : ∃ W1, w.alloc (.loop (rec .ready none)) = W1 := ⟨_, rfl⟩
  have hs1 : W1.heap.size = w.heap.size + 1 := by rw [← hW1]; simp
  have hL1 : W1.heap[w.heap.size]? = some (.loop (rec .ready none)) := by
    rw [← hW1]; exact World.alloc_heap_new w _
  have hI1 : I [] (fun _ => False) W1 := by rw [← hW1]; exact hI.turn h0 (Turned.alloc _ _)
  have hb1 : Below w0.heap.size w0 W1 := by
    rw [← hW1]; exact hb0.trans (((Below.refl _ w).alloc (Nat.le_refl _) _).mono hb0.size)
  refine ⟨w.heap.size, [], W1, { target := .fn (.func gf) lb, args := #[.func (.yield w.heap.size) #[] #[]] }, W1, gf,
    #[.func (.yield w.heap.size) #[] #[]] ++ lb, W1, ?_, ?_, ?_, ?_, ?_, ?_⟩
  · rw [← hW1, hrec]; exact run_enterLoop_inner hl₀ _ _ _ _ _
  · simp only [resolve, hg]
    simp [go_sem]
  · intro f' hf'; exact trivial
  · simp [invoke, go_sem, eg]
  · intro h; cases h
  · refine callsIn_wide.2 (Calls.mono (hseq w.heap.size
      (fun pre X W => I pre X W ∧ W.heap[w.heap.size]? = some (.loop (rec .ready none)) ∧ (∀ k, X k → w.heap.size + 1 ≤ k))
      (fun pre X W => ∃ c, Ix c pre X W ∧ W.heap[w.heap.size]? = some (.loop (rec .done (some c))) ∧ (∀ k, X k → w.heap.size + 1 ≤ k))
      W1 hb1
      (fun s X X' A B hs ht hX => ⟨hI s X X' A B hs.1 (ht.mono (fun _ x => x) (by omega)) hX, ht.block _ _ hs.2.1 (fun x => by have := hs.2.2 _ x; omega) (.inr (by omega)), fun k hk => by
        rcases hX k hk with h | h
        · exact hs.2.2 k h
        · have := (Array.getElem?_eq_some_iff.1 hs.2.1).1; omega⟩)
      (fun s X X' A B hs ht hX => by
        obtain ⟨c, hc, hl, hx⟩ := hs
        exact ⟨c, hIx c s X X' A B hc (ht.mono (fun _ x => x) (by omega)) hX, ht.block _ _ hl (fun x => by have := hx _ x; omega) (.inr (by omega)), fun k hk' => by
          rcases hX k hk' with h | h
          · exact hx k h
          · have := (Array.getElem?_eq_some_iff.1 hl).1; omega⟩)
      ?_ ⟨hI1, hL1, fun _ h => h.elim⟩) ?_)
    · rintro pre x X W ⟨hi, hl, hx⟩ hxB hlen
      have hlt : w.heap.size < W.heap.size := (Array.getElem?_eq_some_iff.1 hl).1
      have hy := run_yield (P := P) (args := encs x) hl (by rw [hrec]; exact hps x)
      rw [hrec] at hy
      refine ⟨fn, _, assign, body, hy, RoundIn.any (n := n - 1 - 1) (roundIn_of_wpIn hfn (hassign _ pre x X W _ hi (fun k h => ⟨by have := hx k h; omega, (hxB k h).2⟩) ?_))⟩
      clear hy
      intro a' Wa hkfa hkpa hia hax
      replace hl := hkfa.same _ _ (by omega) hl rfl
      replace hlt : w.heap.size < Wa.heap.size := (Array.getElem?_eq_some_iff.1 hl).1
      replace hi := hia
      clear hia
      have hxA : ∀ k, X k → k < Wa.heap.size := fun k h => Nat.lt_of_lt_of_le (hxB k h).2 hkfa.size
      clear hxB
      revert hkpa hkfa
      generalize W = Wb
      intro hkfa hkpa
      obtain ⟨W, rfl⟩ : ∃ W, W = Wa := ⟨_, rfl⟩
      refine ⟨_, run_beginRound hl (by rw [hrec]), ?_⟩
      have hl2 : (W.putObj w.heap.size (.loop { rec .ready none with state := .busy })).heap[w.heap.size]? = some (.loop { rec .ready none with state := .busy }) := World.putObj_heap_same hlt
      have hnS : ¬ (K0 w.heap.size ∨ X w.heap.size) := by
        rintro (h | h)
        · have := hK0 _ h; omega
        · have := hx _ h; omega
      have hkB : ∀ {A B : World}, KeepsFrom w.heap.size A B → KeepsFrom W1.heap.size A B := fun h => ⟨h.size, fun k o hk ho hc => h.same k o (by omega) ho hc⟩
      have hput : ∀ (A : World) (o' : Obj), KeepsFrom W1.heap.size A (A.putObj w.heap.size o') := fun A o' => ⟨by simp, fun k o hk ho _ => (World.putObj_heap_other (by omega)).trans ho⟩
      refine wpIn_mono (hbody _ pre x X a' _ (by omega) ⟨_, hl2⟩ (fun k h => ⟨hx k h, by simpa using hxA k h⟩) (hI.turn hi (Turned.putObj _ hl rfl (by omega))) ((hAx x a').putObj (s := ()) _ hax (by omega) hl rfl) hlen) ?_
      have fin : ∀ (jump : Option Code) (W3 : World), KeepsFrom w.heap.size (W.putObj w.heap.size (.loop { rec .ready none with state := .busy })) W3 →
          (Instr.endRound w.heap.size jump).run P W3 = .ok (.bool jump.isNone) (W3.putObj w.heap.size (.loop (rec (if jump.isNone then .ready else .done) jump))) ∧
          W3.heap[w.heap.size]? = some (.loop { rec .ready none with state := .busy }) ∧
          (W3.putObj w.heap.size (.loop (rec (if jump.isNone then .ready else .done) jump))).heap[w.heap.size]? = some (.loop (rec (if jump.isNone then .ready else .done) jump)) ∧
          KeepsFrom W1.heap.size Wb (W3.putObj w.heap.size (.loop (rec (if jump.isNone then .ready else .done) jump))) := fun jump W3 hk3 => by
        have hl3 := hk3.same _ _ (by omega) hl2 rfl
        have := run_endRound (P := P) jump hl3
        rw [hrec] at this ⊢
        exact ⟨this, by rw [hrec] at hl3; exact hl3, World.putObj_heap_same (Array.getElem?_eq_some_iff.1 hl3).1,
          (((hkB hkfa).trans (hput _ _)).trans (hkB hk3)).trans (hput _ _)⟩
      rintro e a3 W3 hp
      cases e with
      | normal =>
        obtain ⟨hk3, hkp3, hi3⟩ := hp
        obtain ⟨hr, hl3, hl4, hkf⟩ := fin none W3 hk3
        exact ⟨_, _, hr, hkf, .inl ⟨rfl, ⟨hI.turn hi3 (Turned.putObj _ hl3 rfl (by omega)), hl4, hx⟩, ((hkpa.trans (keepS_put _ hnS)).trans hkp3).trans (keepS_put _ hnS)⟩⟩
      | ret =>
        obtain ⟨hk3, hi3⟩ := hp
        obtain ⟨hr, hl3, hl4, hkf⟩ := fin (some .ret) W3 hk3
        exact ⟨_, _, hr, hkf, .inr ⟨rfl, .ret, (hIx _).turn hi3 (Turned.putObj _ hl3 rfl (by omega)), hl4, hx⟩⟩
      | exit id =>
        obtain ⟨hk3, hi3⟩ := hp
        obtain ⟨hr, hl3, hl4, hkf⟩ := fin (some (.exit id)) W3 hk3
        exact ⟨_, _, hr, hkf, .inr ⟨rfl, .exit id, (hIx _).turn hi3 (Turned.putObj _ hl3 rfl (by omega)), hl4, hx⟩⟩
      | goto t =>
        obtain ⟨hk3, hi3⟩ := hp
        obtain ⟨hr, hl3, hl4, hkf⟩ := fin (some (.goto t)) W3 hk3
        exact ⟨_, _, hr, hkf, .inr ⟨rfl, .goto t, (hIx _).turn hi3 (Turned.putObj _ hl3 rfl (by omega)), hl4, hx⟩⟩
      | panic ch => exact hp.elim
      | outgrown => exact hp.elim
    · rintro e W2 ⟨⟨v, rfl⟩, (⟨xs, X, hS, hi, hl, hx⟩ | ⟨pre, X, hSp, c, hi, hl, hx⟩)⟩
      · exact ⟨none, _, by have := run_endLoop (P := P) hl (by rw [hrec]; simp); rw [hrec] at this; exact this, hdone xs X _ hS (hI.turn hi (Turned.putObj _ hl rfl (by omega)))⟩
      · exact ⟨some c, _, by have := run_endLoop (P := P) hl (by rw [hrec]; simp); rw [hrec] at this; exact this, hstop c pre X _ hSp ((hIx c).turn hi (Turned.putObj _ hl rfl (by omega)))⟩
/-- what an iterator does between two rounds leaves a set as it lay that lies ahead of it -/
theorem keepS_turned {S X : Nat → Prop} {B : Nat} {V0 V V' : World} (h : KeepS S V0 V) (ht : Turned X B V V') (hS : ∀ k, S k → k < B ∧ ¬ X k ∧ k < V.heap.size) : KeepS S V0 V' :=
  h.trans ⟨ht.os, ht.tape, ht.output, ht.size, fun k hk => by
    obtain ⟨h1, h2, h3⟩ := hS k hk
    rw [Array.getElem?_eq_getElem h3]
    exact ht.block k _ (Array.getElem?_eq_getElem h3) h2 (.inr h1)⟩
end Vt
end Go.Proofs.Ytlddogigbodilaa
