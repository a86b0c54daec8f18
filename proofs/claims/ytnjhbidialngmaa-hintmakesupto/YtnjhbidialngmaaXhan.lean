/-
  A frame, byte by byte.
  FRAMES THERE AND BACK, PLAINLY: what was written is read; what is read is what would be written; the lead byte stands first alone.
  A REGION THAT DRAWS ITS ORDER, BY AN INVARIANT: whatever the order in which its operations come up, what each has yielded is told by a property that later operations leave standing; so each operation is looked at once, not once for each order. No condition beyond those that each theorem bears.
  THE WALKS OF the law's own 'first' and 'known': the document's first example is written and read.
-/
import Derived.Test.YtnjhbidialngmaaXham
import Derived.Test.YtnjhbidialngmaaXhal
import Derived.WalkKit
namespace Go.Proofs.Ytnjhbidialngmaa
namespace Vt
theorem en_eq (f : Fr) : en f = 167 :: (dg 3 (wr (bd f)).length ++ (wr (bd f) ++ dg 5 (Crc.go 0 (dg 3 (wr (bd f)).length ++ wr (bd f))))) := by
  unfold en ep; simp
end Vt
end Go.Proofs.Ytnjhbidialngmaa
namespace Go.Proofs.Ytnjhbidialngmaa
namespace Vt
theorem nx_none {l : List Nat} (h : ∀ x ∈ l, x ≠ 167) : nx l = l.length := by
  unfold nx
  rw [List.findIdx_eq_length]
  intro x hx
  simpa using h x hx
theorem p3 : (128 : Nat) ^ 3 = 2097152 := by decide
theorem p5 : (128 : Nat) ^ 5 = 34359738368 := by decide
/-- what was written is read, whatever stands behind -/
theorem dcd_en {f : Fr} (hw : f.Wf) (h : rf f = 0) (r : List Nat) : dcd (en f ++ r) = (f, (en f).length, 0) := by
  obtain ⟨hb1, hb2⟩ := bd_len hw h
  have hl := (wr_len (bd f)).2
  have hp := prs_bd hw h
  have hS := Crc.go_lt 0 (dg 3 (wr (bd f)).length ++ wr (bd f))
  have hEL := en_len f
  have hno := wr_no (bd f)
  have hplain := plain_wr (bd f)
  have hbad := badB_wr (bd f) 0
  rw [en_eq] at hEL ⊢
  generalize hW : wr (bd f) = W at *
  generalize hSS : Crc.go 0 (dg 3 W.length ++ W) = S at *
  have hN3 : nm (dg 3 W.length) = W.length := by rw [nm_dg, p3]; omega
  have hS5 : nm (dg 5 S) = S := by rw [nm_dg, p5]; omega
  have d3 := dg_len 3 W.length
  have d5 := dg_len 5 S
  have hm : (167 :: (dg 3 W.length ++ (W ++ dg 5 S))) ++ r = 167 :: (dg 3 W.length ++ (W ++ (dg 5 S ++ r))) := by simp
  rw [hm]
  have hdig : dig (167 :: (dg 3 W.length ++ (W ++ (dg 5 S ++ r)))) = dg 3 W.length := by
    unfold dig
    rw [List.drop_succ_cons, List.drop_zero, List.take_append_of_le_length (by omega), List.take_of_length_le (by omega)]
  have hlen : (167 :: (dg 3 W.length ++ (W ++ (dg 5 S ++ r)))).length = W.length + 9 + r.length := by simp [d3, d5]; omega
  have hrl : rl (167 :: (dg 3 W.length ++ (W ++ (dg 5 S ++ r)))) = (W.length, 0) := by
    have := rl_0 (l := 167 :: (dg 3 W.length ++ (W ++ (dg 5 S ++ r)))) rfl (by rw [hdig]; exact dg_lt _ _) (by rw [hlen]; omega) (by rw [hdig, hN3, hlen]; omega)
    rw [this, hdig, hN3]
  have h4 : (167 :: (dg 3 W.length ++ (W ++ (dg 5 S ++ r)))).drop 4 = W ++ (dg 5 S ++ r) := by
    rw [show (4 : Nat) = 3 + 1 by omega, List.drop_succ_cons, List.drop_left' d3]
  have hE : ((167 :: (dg 3 W.length ++ (W ++ (dg 5 S ++ r)))).drop 4).take W.length = W := by rw [h4, List.take_left]
  have hT : ((167 :: (dg 3 W.length ++ (W ++ (dg 5 S ++ r)))).drop (4 + W.length)).take 5 = dg 5 S := by
    rw [← List.drop_drop, h4, List.drop_left, List.take_left' d5]
  have hM : ((167 :: (dg 3 W.length ++ (W ++ (dg 5 S ++ r)))).drop 1).take (3 + W.length) = dg 3 W.length ++ W := by
    rw [List.drop_succ_cons, List.drop_zero, ← List.append_assoc, List.take_left' (by rw [List.length_append, d3])]
  have hO : opF W = some f := by
    have := opF_yes (l := W) (by rw [hbad]) (by rw [hplain, hp]) (by rw [hplain, hp]; exact h)
    rw [this, hplain, hp]
  unfold dcd
  rw [hrl]
  simp only
  rw [hE, hT, hM, if_neg (by simp), if_neg (by rw [nx_none hno]; omega), if_neg (fun q => q ⟨dg_lt _ _, by rw [hS5, hSS]⟩), hO]
  simp only
  rw [hEL]
/-- what is read is what would be written -/
theorem en_dcd {m : List Nat} (hb : Byt m) (h : (dcd m).2.2 = 0) : rf (dcd m).1 = 0 ∧ (dcd m).1.Wf ∧ (dcd m).2.1 = (en (dcd m).1).length ∧ (dcd m).2.1 ≤ m.length ∧ m.take (dcd m).2.1 = en (dcd m).1 := by
  by_cases h1 : (rl m).2 ≠ 0
  · unfold dcd at h; rw [if_pos h1] at h; exact absurd h h1
  · obtain ⟨n, er, hn⟩ : ∃ n er, rl m = (n, er) := ⟨_, _, rfl⟩
    rw [hn] at h1
    simp only at h1
    obtain rfl : er = 0 := by omega
    obtain ⟨r1, r2, r3, r4, r5, r6⟩ := rl_ok hn
    unfold dcd at h ⊢
    rw [hn] at h ⊢
    simp only at h ⊢
    rw [if_neg (by simp)] at h ⊢
    by_cases c1 : nx ((m.drop 4).take n) < n
    · rw [if_pos c1] at h; simp at h
    · rw [if_neg c1] at h ⊢
      by_cases c2 : ¬ ((∀ x ∈ (m.drop (4 + n)).take 5, x < 128) ∧ nm ((m.drop (4 + n)).take 5) = Crc.go 0 ((m.drop 1).take (3 + n)))
      · rw [if_pos c2] at h; simp at h
      · rw [if_neg c2] at h ⊢
        obtain ⟨s1, s2⟩ := Classical.not_not.1 c2
        cases ho : opF ((m.drop 4).take n) with
        | none => rw [ho] at h; simp at h
        | some f =>
          simp only
          unfold opF at ho
          split at ho
          · rename_i c3
            obtain ⟨o1, o2, o3⟩ := c3
            injection ho with ho
            have hpb : Byt (plain ((m.drop 4).take n)) := plain_byt (byt_take (byt_drop hb 4) n)
            obtain ⟨q1, q2⟩ := bd_prs hpb o3 (by rw [o2]) (by rw [o2])
            rw [ho] at o3 q1 q2
            have hW : wr (bd f) = (m.drop 4).take n := by rw [q1]; exact only o1
            have hWl : (wr (bd f)).length = n := by rw [hW, List.length_take, List.length_drop]; omega
            have hD : dg 3 n = dig m := by
              have := dg_nm r2
              rw [dig_len, show min 3 (m.length - 1) = 3 by omega, ← r4] at this
              exact this
            have hT : dg 5 (Crc.go 0 ((m.drop 1).take (3 + n))) = (m.drop (4 + n)).take 5 := by
              have := dg_nm s1
              rw [List.length_take, List.length_drop, show min 5 (m.length - (4 + n)) = 5 by omega, s2] at this
              exact this
            have hmid : dig m ++ (m.drop 4).take n = (m.drop 1).take (3 + n) := by
              unfold dig
              rw [List.take_add, List.drop_drop]
            have hen : en f = 167 :: (dig m ++ ((m.drop 4).take n ++ (m.drop (4 + n)).take 5)) := by
              rw [en_eq, hWl, hW, hD, hmid, hT]
            have htake : m.take (n + 9) = 167 :: (dig m ++ ((m.drop 4).take n ++ (m.drop (4 + n)).take 5)) := by
              have e0 : m.take (n + 9) = m.take 1 ++ ((m.drop 1).take (3 + n) ++ (m.drop (4 + n)).take 5) := by
                rw [show n + 9 = 1 + (3 + n + 5) by omega, List.take_add, List.take_add, List.drop_drop, show 1 + (3 + n) = 4 + n by omega]
              have e1 : m.take 1 = [167] := by
                cases m with
                | nil => simp at r3
                | cons x t => simp at r1; simp [r1]
              rw [e0, e1, ← hmid]
              simp
            refine ⟨o3, q2, ?_, r5, ?_⟩
            · rw [en_len, hWl]
            · rw [htake, hen]
          · cases ho
theorem en_no {f : Fr} {j : Nat} (h1 : 1 ≤ j) (h2 : j < (en f).length) : (en f).getD j 0 ≠ 167 := by
  have key : ∀ x ∈ (en f).drop 1, x ≠ 167 := by
    rw [en_eq]
    intro x hx
    simp only [List.drop_succ_cons, List.drop_zero, List.mem_append] at hx
    rcases hx with hx | hx | hx
    · have := dg_lt _ _ x hx; omega
    · exact wr_no _ x hx
    · have := dg_lt _ _ x hx; omega
  refine key _ ?_
  rw [List.getD_eq_getElem?_getD, List.getElem?_eq_getElem h2, Option.getD_some]
  refine List.mem_iff_getElem.2 ⟨j - 1, by rw [List.length_drop]; omega, ?_⟩
  rw [List.getElem_drop]
  congr 1
  omega
theorem en_head (f : Fr) : (en f).getD 0 0 = 167 := by rw [en_eq]; rfl
theorem dcd_err {m : List Nat} (h : (dcd m).2.2 ≠ 0) : (dcd m).1 = zf ∧ (dcd m).2.1 = 0 := by
  unfold dcd at h ⊢
  by_cases h1 : (rl m).2 ≠ 0
  · rw [if_pos h1]; exact ⟨rfl, rfl⟩
  · rw [if_neg h1] at h ⊢
    by_cases h2 : nx ((m.drop 4).take (rl m).1) < (rl m).1
    · rw [if_pos h2]; exact ⟨rfl, rfl⟩
    · rw [if_neg h2] at h ⊢
      by_cases h3 : ¬ ((∀ x ∈ (m.drop (4 + (rl m).1)).take 5, x < 128) ∧ nm ((m.drop (4 + (rl m).1)).take 5) = Crc.go 0 ((m.drop 1).take (3 + (rl m).1)))
      · rw [if_pos h3]; exact ⟨rfl, rfl⟩
      · rw [if_neg h3] at h ⊢
        cases ho : opF ((m.drop 4).take (rl m).1) with
        | none => exact ⟨rfl, rfl⟩
        | some f => rw [ho] at h; exact absurd rfl h
theorem decF_ok {l : List Nat} {z : Int} (hb : Byt l) (h : (decF l z).2.2 = 0) : ∃ a : Nat, z = (a : Int) ∧ a < l.length ∧ rf (decF l z).1 = 0 ∧ (decF l z).1.Wf ∧ (decF l z).2.1 = (en (decF l z).1).length ∧ a + (decF l z).2.1 ≤ l.length ∧ (l.drop a).take (decF l z).2.1 = en (decF l z).1 := by
  unfold decF at h ⊢
  by_cases h1 : z < 0 ∨ (l.length : Int) ≤ z
  · rw [if_pos h1] at h; simp at h
  · rw [if_neg h1] at h ⊢
    obtain ⟨a, rfl⟩ : ∃ a : Nat, z = (a : Int) := ⟨z.toNat, by omega⟩
    rw [Int.toNat_natCast] at h ⊢
    obtain ⟨e1, e2, e3, e4, e5⟩ := en_dcd (byt_drop hb a) h
    rw [List.length_drop] at e4
    exact ⟨a, rfl, by omega, e1, e2, e3, by omega, e5⟩
theorem en_pos (f : Fr) : 9 ≤ (en f).length := by rw [en_len]; omega
/-- no two frames have a byte in common -/
theorem apart {l : List Nat} {x y : Int} (hb : Byt l) (hx : (decF l x).2.2 = 0) (hy : (decF l y).2.2 = 0) (hne : x < y) : x + ((decF l x).2.1 : Int) ≤ y := by
  obtain ⟨a, rfl, ha, _, _, a3, a4, a5⟩ := decF_ok hb hx
  obtain ⟨b, rfl, hb', _, _, b3, b4, b5⟩ := decF_ok hb hy
  have hab : a < b := by omega
  refine Classical.byContradiction fun hn => ?_
  have hlt : b < a + (decF l (a : Int)).2.1 := by omega
  have h1 : l.getD b 0 = 167 := by
    have e := congrArg (fun q => q.getD 0 0) b5
    rw [en_head] at e
    rw [← e, List.getD_eq_getElem?_getD, List.getD_eq_getElem?_getD, List.getElem?_take, if_pos (by rw [b3]; have := en_pos (decF l (b : Int)).1; omega), List.getElem?_drop, Nat.add_zero]
  have h2 := en_no (f := (decF l (a : Int)).1) (j := b - a) (by omega) (by rw [← a3]; omega)
  have e := congrArg (fun q => q.getD (b - a) 0) a5
  rw [← e, List.getD_eq_getElem?_getD, List.getElem?_take, if_pos (by omega), List.getElem?_drop, show a + (b - a) = b by omega, ← List.getD_eq_getElem?_getD] at h2
  exact h2 h1
end Vt
end Go.Proofs.Ytnjhbidialngmaa
namespace Go.Proofs.Ytnjhbidialngmaa
open Go Go.RowKit

theorem ready_spec {md : Region.Mode} {ops : Array Oper} {L : Array Bool} {i : Nat} (h : i ∈ Region.ready md ops L) :
    ∃ o, ops[i]? = some o ∧ i < ops.size ∧ L.getD i true = false ∧ ∀ e ∈ o.after, Region.binds md e = true → L.getD e.on false = true := by
  unfold Region.ready at h
  obtain ⟨h1, h2⟩ := List.mem_filter.1 h
  have hi : i < ops.size := by simpa using h1
  have ho : ops[i]? = some ops[i] := Array.getElem?_eq_getElem hi
  rw [ho] at h2
  simp only [Option.map_some, Option.getD_some, Bool.and_eq_true, Bool.not_eq_eq_eq_not, Bool.not_true, Array.all_eq_true'] at h2
  refine ⟨ops[i], ho, hi, h2.1, fun e he hb => ?_⟩
  have := h2.2 e he
  rw [hb] at this
  simpa using this
theorem ready_nil {md : Region.Mode} {ops : Array Oper} {L : Array Bool} (h : ∀ i, i < ops.size → L.getD i true = true) : Region.ready md ops L = [] := by
  unfold Region.ready
  rw [List.filter_eq_nil_iff]
  intro i hi
  rw [h i (by simpa using hi)]
  simp
/-- how many are not yet listed -/
def left (L : Array Bool) : Nat := L.toList.countP (fun b => !b)
theorem left_set {L : Array Bool} {i : Nat} (h : L.getD i true = false) : left (L.setIfInBounds i true) + 1 = left L := by
  have hi : i < L.size := by
    rcases Nat.lt_or_ge i L.size with h' | h'
    · exact h'
    · rw [Array.getD_eq_getD_getElem?, Array.getElem?_eq_none h'] at h; simp at h
  have hv : L.toList[i]'(by simpa using hi) = false := by
    rw [Array.getD_eq_getD_getElem?, Array.getElem?_eq_getElem hi] at h
    simpa using h
  unfold left
  rw [Array.toList_setIfInBounds, List.countP_set (by simpa using hi), hv]
  have hpos : 0 < L.toList.countP (fun b => !b) := List.countP_pos_iff.2 ⟨false, by rw [← hv]; exact List.getElem_mem _, rfl⟩
  rw [if_pos (by decide), if_neg (by decide)]
  omega
theorem left_zero {L : Array Bool} (h : left L = 0) (i : Nat) (hi : i < L.size) : L.getD i true = true := by
  unfold left at h
  rw [List.countP_eq_zero] at h
  have := h L[i] (by simp)
  rw [Array.getD_eq_getD_getElem?, Array.getElem?_eq_getElem hi]
  simpa using this
theorem wpAny_inv {P : Program} {md : Region.Mode} {ops : Array Oper} {Q : Exit → Act → World → Prop} (I : Array Bool → Act → World → Prop)
    (hsz : ∀ L a w, I L a w → L.size = ops.size)
    (hstep : ∀ L a w i, I L a w → i ∈ Region.ready md ops L → wpOp P ops Q i (fun a' w' => I (L.setIfInBounds i true) a' w') a w)
    (hdone : ∀ L a w, I L a w → Region.ready md ops L = [] → Q .normal a w) :
    ∀ fuel L a w, I L a w → left L ≤ fuel → wpAny P md ops Q fuel L a w := by
  intro fuel
  induction fuel with
  | zero =>
    intro L a w h hl
    have hr : Region.ready md ops L = [] := ready_nil fun i hi => left_zero (by omega) i (by rw [hsz L a w h]; exact hi)
    exact ⟨hr, hdone L a w h hr⟩
  | succ fuel ih =>
    intro L a w h hl
    refine ⟨fun hr => hdone L a w h hr, fun i hi => ?_⟩
    obtain ⟨o, ho, hlt, hL, _⟩ := ready_spec hi
    have := left_set hL
    exact wpOp_mono (fun a' w' h' => ih _ a' w' h' (by omega)) (hstep L a w i h hi)

/-- each operation's forerunners stand ahead of it -/
def aftersAhead (ops : Array Oper) : Bool := (List.range ops.size).all fun i => ((ops[i]?).map fun o => o.after.all fun e => decide (e.on < i)).getD true
theorem all_listed {md : Region.Mode} {ops : Array Oper} {L : Array Bool} (h : aftersAhead ops = true) (hs : L.size = ops.size) (hr : Region.ready md ops L = []) : ∀ i, i < ops.size → L.getD i false = true := by
  intro i
  induction i using Nat.strongRecOn with
  | _ i ih =>
    intro hi
    refine Classical.byContradiction fun hn => ?_
    have hL : L.getD i true = false := by
      rw [Array.getD_eq_getD_getElem?, Array.getElem?_eq_getElem (by omega)] at hn ⊢
      simpa using hn
    have ho : ops[i]? = some ops[i] := Array.getElem?_eq_getElem hi
    have hmem : i ∈ Region.ready md ops L := by
      unfold Region.ready
      refine List.mem_filter.2 ⟨by simpa using hi, ?_⟩
      rw [hL, ho]
      simp only [Option.map_some, Option.getD_some, Bool.not_false, Bool.true_and, Array.all_eq_true']
      intro e he
      have hlt : e.on < i := by
        unfold aftersAhead at h
        have := List.all_eq_true.1 h i (by simpa using hi)
        rw [ho] at this
        simp only [Option.map_some, Option.getD_some, Array.all_eq_true', decide_eq_true_eq] at this
        exact this e he
      rw [ih e.on hlt (by omega)]
      simp
    rw [hr] at hmem
    simp at hmem
/-- where an operation writes -/
def dstOf (ops : Array Oper) (i : Nat) : Option Nat := (ops[i]?).bind (·.dst)
def dstsApart (ops : Array Oper) (n : Nat) : Bool :=
  (List.range ops.size).all fun i => match dstOf ops i with
    | none => false
    | some d => decide (d < n) && (List.range ops.size).all fun j => decide (i = j) || !(dstOf ops j == some d)
theorem dsts_spec {ops : Array Oper} {n : Nat} (h : dstsApart ops n = true) {i : Nat} (hi : i < ops.size) : ∃ d, dstOf ops i = some d ∧ d < n ∧ ∀ j, j < ops.size → j ≠ i → dstOf ops j ≠ some d := by
  unfold dstsApart at h
  have := List.all_eq_true.1 h i (by simpa using hi)
  split at this
  · simp at this
  · rename_i d hd
    simp only [Bool.and_eq_true, decide_eq_true_eq, List.all_eq_true, List.mem_range, Bool.or_eq_true, Bool.not_eq_eq_eq_not, Bool.not_true, beq_eq_false_iff_ne] at this
    refine ⟨d, hd, this.1, fun j hj hne => ?_⟩
    rcases this.2 j hj with h' | h'
    · exact absurd h'.symm hne
    · exact h'
def notDst (ops : Array Oper) (k : Nat) : Bool := (List.range ops.size).all fun j => !(dstOf ops j == some k)
theorem notDst_spec {ops : Array Oper} {k : Nat} (h : notDst ops k = true) : ∀ j, j < ops.size → dstOf ops j ≠ some k := by
  intro j hj
  have := List.all_eq_true.1 h j (by simpa using hj)
  simpa using this
theorem yielded_of {ops : Array Oper} {a : Act} {j d : Nat} {b : Bool} (hd : dstOf ops j = some d) (hs : d < a.tmps.size) (hv : a.tmps.getD d undef = .bool b) : yielded ops a.tmps j = some b := by
  unfold yielded
  unfold dstOf at hd
  rw [hd, Option.bind_some]
  rw [Array.getD_eq_getD_getElem?, Array.getElem?_eq_getElem hs] at hv
  rw [Array.getElem?_eq_getElem hs]
  simp only [Option.getD_some] at hv
  rw [hv]
/-- the slot that operation i has filled -/
def slotOf (ops : Array Oper) (a : Act) (i : Nat) : Value := a.tmps.getD ((dstOf ops i).getD 0) undef
theorem getD_put (a : Act) (d k : Nat) (v : Value) (hd : d < a.tmps.size) : (a.put (some d) v).tmps.getD k undef = if k = d then v else a.tmps.getD k undef := by
  simp only [Act.put, Array.getD_eq_getD_getElem?, Array.getElem?_setIfInBounds]
  by_cases h : k = d
  · subst h; simp [hd]
  · rw [if_neg (by omega), if_neg h]

theorem getq {a : Act} {k : Nat} {v : Value} (h : a.tmps.getD k undef = v) : a.tmps[k]?.getD undef = v := by rwa [Array.getD_eq_getD_getElem?] at h
/-- an operation that is wanted and yields something good -/
theorem step_good {P : Program} {o : Oper} {a : Act} {w : World} {Q : Exit → Act → World → Prop} {ops : Array Oper} (good : Value → World → Prop) (hw : Region.wanted o (yielded ops a.tmps) = true)
    (h : ∀ K : Act → World → Prop, (∀ v w', good v w' → K (a.put o.dst v) w') → o.wp P a w K Q) :
    if Region.wanted o (yielded ops a.tmps) then o.wp P a w (fun a' w' => ∃ v, a' = a.put o.dst v ∧ good v w') Q else False := by
  rw [if_pos hw]
  exact h _ (fun v w' hg => ⟨v, rfl, hg⟩)
theorem wanted_none {o : Oper} {f : Nat → Option Bool} (h : o.guard = none) : Region.wanted o f = true := by
  unfold Region.wanted; rw [h]
theorem wanted_some {o : Oper} {f : Nat → Option Bool} {j : Nat} {b : Bool} (h : o.guard = some (j, b)) (hf : f j = some b) : Region.wanted o f = true := by
  unfold Region.wanted; rw [h]; simp [hf]
/-- THE REGION BY AN INVARIANT. 'G i v w': what operation i has yielded, v, is good in the world w; it stays so while the world grows ('W', 'stable'); each operation, its forerunners' yields being good, yields something good ('step'). -/
theorem region_inv {P : Program} {id : Nat} {ops : Array Oper} {Q : Exit → Act → World → Prop} {a0 : Act} {w0 : World} (G : Nat → Value → World → Prop) (W : World → Prop)
    (hm : P.follows .mixedOrders = true) (hd : dstsApart ops a0.tmps.size = true) (hah : aftersAhead ops = true) (hW0 : W w0.drew)
    (stable : ∀ i v w w', W w → W w' → Below w.heap.size w w' → G i v w → G i v w')
    (step : ∀ i o, ops[i]? = some o → ∀ a w, W w → a.defers = a0.defers → a.tmps.size = a0.tmps.size →
      (∀ k, (∀ j, j < ops.size → dstOf ops j ≠ some k) → a.tmps.getD k undef = a0.tmps.getD k undef) →
      (∀ e ∈ o.after, Region.binds .any e = true → G e.on (slotOf ops a e.on) w) →
      (if Region.wanted o (yielded ops a.tmps) then o.wp P a w (fun a' w' => ∃ v, a' = a.put o.dst v ∧ Below w.heap.size w w' ∧ W w' ∧ G i v w') Q else False))
    (done : ∀ a w, W w → a.defers = a0.defers → a.tmps.size = a0.tmps.size →
      (∀ k, (∀ j, j < ops.size → dstOf ops j ≠ some k) → a.tmps.getD k undef = a0.tmps.getD k undef) →
      (∀ i, i < ops.size → G i (slotOf ops a i) w) → Q .normal a w) :
    (Code.region id ops true).wp P Q a0 w0 := by
  refine wp_region_any hm ?_
  refine wpAny_inv (fun L a w => L.size = ops.size ∧ W w ∧ a.defers = a0.defers ∧ a.tmps.size = a0.tmps.size ∧
      (∀ k, (∀ j, j < ops.size → dstOf ops j ≠ some k) → a.tmps.getD k undef = a0.tmps.getD k undef) ∧
      (∀ i, i < ops.size → L.getD i false = true → G i (slotOf ops a i) w)) (fun L a w h => h.1) ?_ ?_ _ _ _ _ ?_ ?_
  · rintro L a w i ⟨h1, h2, h3, h4, h5, h6⟩ hi
    obtain ⟨o, ho, hlt, hL, haf⟩ := ready_spec hi
    obtain ⟨d, hdi, hdn, hdj⟩ := dsts_spec hd hlt
    have hod : o.dst = some d := by simpa [dstOf, ho] using hdi
    have hst := step i o ho a w h2 h3 h4 h5 (fun e he hb => h6 e.on (by
      have := haf e he hb
      rcases Nat.lt_or_ge e.on ops.size with h' | h'
      · exact h'
      · rw [Array.getD_eq_getD_getElem?, Array.getElem?_eq_none (by omega)] at this; simp at this) (haf e he hb))
    unfold wpOp
    rw [ho]
    split at hst
    · rename_i hw
      simp only [hw, if_true]
      refine .inl (Oper.wp_mono ?_ hst)
      rintro a' w' ⟨v, rfl, hb, hW', hG⟩
      have hda : d < a.tmps.size := by omega
      rw [hod]
      refine ⟨by rw [Array.size_setIfInBounds]; exact h1, hW', by simp only [Act.put]; exact h3, by simp only [Act.put, Array.size_setIfInBounds]; exact h4, ?_, ?_⟩
      · intro k hk
        rw [getD_put _ _ _ _ hda, if_neg (fun e => hk i hlt (by rw [e]; exact hdi))]
        exact h5 k hk
      · intro j hj hLj
        by_cases e : j = i
        · subst e
          unfold slotOf
          rw [hdi, Option.getD_some, getD_put _ _ _ _ hda, if_pos rfl]
          exact hG
        · obtain ⟨dj, hdj1, hdj2, hdj3⟩ := dsts_spec hd hj
          have hne : dj ≠ d := fun e2 => hdj j hj e (by rw [← e2]; exact hdj1)
          unfold slotOf
          rw [hdj1, Option.getD_some, getD_put _ _ _ _ hda, if_neg hne]
          have hLj' : L.getD j false = true := by
            rw [Array.getD_eq_getD_getElem?, Array.getElem?_setIfInBounds_ne (by omega)] at hLj
            rw [Array.getD_eq_getD_getElem?]; exact hLj
          have := h6 j hj hLj'
          unfold slotOf at this
          rw [hdj1, Option.getD_some] at this
          exact stable j _ w w' h2 hW' hb this
    · exact hst.elim
  · rintro L a w ⟨h1, h2, h3, h4, h5, h6⟩ hr
    exact done a w h2 h3 h4 h5 fun i hi => h6 i hi (all_listed hah h1 hr i hi)
  · refine ⟨by simp, hW0, rfl, rfl, fun _ _ => rfl, fun i hi h => ?_⟩
    rw [Array.getD_eq_getD_getElem?, Array.getElem?_replicate] at h
    simp [hi] at h
  · unfold left
    exact Nat.le_trans (List.countP_le_length) (by simp)
end Go.Proofs.Ytnjhbidialngmaa
namespace Go.Proofs.Ytnjhbidialngmaa
open Go.RowKit
namespace Vt
def F0 : Fr := ofR ⟨1, 1, ⟨#[107]⟩, ⟨#[118]⟩⟩
end Vt
end Go.Proofs.Ytnjhbidialngmaa
