/-
  A REGION THAT DRAWS ITS ORDER AROUND A CALL: all other operations must come ahead of it, or behind it; ahead the world is told by a predicate; the call leaves some world and value of which another tells; what is behind only reads. No condition beyond those that each theorem bears.
  What segment.Read tells, plainly.
  A frame, byte by byte.
  FRAMES THERE AND BACK, PLAINLY: what was written is read; what is read is what would be written; the lead byte stands first alone.
-/
import Derived.Test.YtolddolfpnkndaaGreatXuan
import Derived.Test.YtolddolfpnkndaaGreatXubf
import Derived.Test.YtolddolfpnkndaaGreatXubj
import Derived.Test.YtolddolfpnkndaaGreatXuaz
namespace Go.Proofs.YtolddolfpnkndaaGreat
open Go Go.RowKit
def pivOk (ops : Array Oper) (C : Nat) : Bool := (List.range ops.size).all fun i => decide (i = C) || (anc ops ops.size C i || anc ops ops.size i C)
def tupAt (v : Value) (k : Nat) : Value := match v with
  | .tuple xs => xs.getD k undef
  | _ => undef
end Go.Proofs.YtolddolfpnkndaaGreat
namespace Go.Proofs.YtolddolfpnkndaaGreat
open Go.RowKit Go.Maps Go.Sort
namespace Sg
open Vt Dk
def rdBad (sg : Nat) (at_ ln : Int) : Prop := sg = 0 ∨ at_ < 0 ∨ ln < 1
noncomputable def rdX (S : Ds) (sg : Nat) (at_ ln : Int) : Rec × Nat :=
  if (decF (Dk.bytes S (nmS sg) at_ ln) 0).2.2 ≠ 0 ∨ (((decF (Dk.bytes S (nmS sg) at_ ln) 0).2.1 : Nat) : Int) ≠ ln ∨ ((decF (Dk.bytes S (nmS sg) at_ ln) 0).1.kind ≠ 1 ∧ (decF (Dk.bytes S (nmS sg) at_ ln) 0).1.kind ≠ 2) then (zr, 91) else ((decF (Dk.bytes S (nmS sg) at_ ln) 0).1.r, 0)
def rdT (r : Rec) (e : Nat) : Value := .tuple #[.agg (rv r), .int .i64 (e : Int)]
end Sg
end Go.Proofs.YtolddolfpnkndaaGreat
namespace Go.Proofs.YtolddolfpnkndaaGreat
namespace Vt
theorem en_eq (f : Fr) : en f = 167 :: (dg 3 (wr (bd f)).length ++ (wr (bd f) ++ dg 5 (Crc.go 0 (dg 3 (wr (bd f)).length ++ wr (bd f))))) := by
  unfold en ep; simp
end Vt
end Go.Proofs.YtolddolfpnkndaaGreat
namespace Go.Proofs.YtolddolfpnkndaaGreat
namespace Vt
theorem nx_none {l : List Nat} (h : ∀ x ∈ l, x ≠ 167) : nx l = l.length := by
  unfold nx
  rw [List.findIdx_eq_length]
  intro x hx
  simpa using h x hx
theorem p3 : (128 : Nat) ^ 3 = 2097152 := by decide
theorem p5 : (128 : Nat) ^ 5 = 34359738368 := by decide
/-- what was written is read, whatever stands behind -/
theorem dcd_en {f : Fr} (hw : f.Wf) (h : rf f = 0) (r : List Nat) : dcd (en f ++ r) = (f, (en f).length, 0) := by
  obtain ⟨hb1, hb2⟩ := bd_len hw h
  have hl := (wr_len (bd f)).2
  have hp := prs_bd hw h
  have hS := Crc.go_lt 0 (dg 3 (wr (bd f)).length ++ wr (bd f))
  have hEL := en_len f
  have hno := wr_no (bd f)
  have hplain := plain_wr (bd f)
  have hbad := badB_wr (bd f) 0
  rw [en_eq] at hEL ⊢
  generalize hW : wr (bd f) = W at *
  generalize hSS : Crc.go 0 (dg 3 W.length ++ W) = S at *
  have hN3 : nm (dg 3 W.length) = W.length := by rw [nm_dg, p3]; omega
  have hS5 : nm (dg 5 S) = S := by rw [nm_dg, p5]; omega
  have d3 := dg_len 3 W.length
  have d5 := dg_len 5 S
  have hm : (167 :: (dg 3 W.length ++ (W ++ dg 5 S))) ++ r = 167 :: (dg 3 W.length ++ (W ++ (dg 5 S ++ r))) := by simp
  rw [hm]
  have hdig : dig (167 :: (dg 3 W.length ++ (W ++ (dg 5 S ++ r)))) = dg 3 W.length := by
    unfold dig
    rw [List.drop_succ_cons, List.drop_zero, List.take_append_of_le_length (by omega), List.take_of_length_le (by omega)]
  have hlen : (167 :: (dg 3 W.length ++ (W ++ (dg 5 S ++ r)))).length = W.length + 9 + r.length := by simp [d3, d5]; omega
  have hrl : rl (167 :: (dg 3 W.length ++ (W ++ (dg 5 S ++ r)))) = (W.length, 0) := by
    have := rl_0 (l := 167 :: (dg 3 W.length ++ (W ++ (dg 5 S ++ r)))) rfl (by rw [hdig]; exact dg_lt _ _) (by rw [hlen]; omega) (by rw [hdig, hN3, hlen]; omega)
    rw [this, hdig, hN3]
  have h4 : (167 :: (dg 3 W.length ++ (W ++ (dg 5 S ++ r)))).drop 4 = W ++ (dg 5 S ++ r) := by
    rw [show (4 : Nat) = 3 + 1 by omega, List.drop_succ_cons, List.drop_left' d3]
  have hE : ((167 :: (dg 3 W.length ++ (W ++ (dg 5 S ++ r)))).drop 4).take W.length = W := by rw [h4, List.take_left]
  have hT : ((167 :: (dg 3 W.length ++ (W ++ (dg 5 S ++ r)))).drop (4 + W.length)).take 5 = dg 5 S := by
    rw [← List.drop_drop, h4, List.drop_left, List.take_left' d5]
  have hM : ((167 :: (dg 3 W.length ++ (W ++ (dg 5 S ++ r)))).drop 1).take (3 + W.length) = dg 3 W.length ++ W := by
    rw [List.drop_succ_cons, List.drop_zero, ← List.append_assoc, List.take_left' (by rw [List.length_append, d3])]
  have hO : opF W = some f := by
    have := opF_yes (l := W) (by rw [hbad]) (by rw [hplain, hp]) (by rw [hplain, hp]; exact h)
    rw [this, hplain, hp]
  unfold dcd
  rw [hrl]
  simp only
  rw [hE, hT, hM, if_neg (by simp), if_neg (by rw [nx_none hno]; omega), if_neg (fun q => q ⟨dg_lt _ _, by rw [hS5, hSS]⟩), hO]
  simp only
  rw [hEL]
/-- what is read is what would be written -/
theorem en_dcd {m : List Nat} (hb : Byt m) (h : (dcd m).2.2 = 0) : rf (dcd m).1 = 0 ∧ (dcd m).1.Wf ∧ (dcd m).2.1 = (en (dcd m).1).length ∧ (dcd m).2.1 ≤ m.length ∧ m.take (dcd m).2.1 = en (dcd m).1 := by
  by_cases h1 : (rl m).2 ≠ 0
  · unfold dcd at h; rw [if_pos h1] at h; exact absurd h h1
  · obtain ⟨n, er, hn⟩ : ∃ n er, rl m = (n, er) := ⟨_, _, rfl⟩
    rw [hn] at h1
    simp only at h1
    obtain rfl : er = 0 := by omega
    obtain ⟨r1, r2, r3, r4, r5, r6⟩ := rl_ok hn
    unfold dcd at h ⊢
    rw [hn] at h ⊢
    simp only at h ⊢
    rw [if_neg (by simp)] at h ⊢
    by_cases c1 : nx ((m.drop 4).take n) < n
    · rw [if_pos c1] at h; simp at h
    · rw [if_neg c1] at h ⊢
      by_cases c2 : ¬ ((∀ x ∈ (m.drop (4 + n)).take 5, x < 128) ∧ nm ((m.drop (4 + n)).take 5) = Crc.go 0 ((m.drop 1).take (3 + n)))
      · rw [if_pos c2] at h; simp at h
      · rw [if_neg c2] at h ⊢
        obtain ⟨s1, s2⟩ := Classical.not_not.1 c2
        cases ho : opF ((m.drop 4).take n) with
        | none => rw [ho] at h; simp at h
        | some f =>
          simp only
          unfold opF at ho
          split at ho
          · rename_i c3
            obtain ⟨o1, o2, o3⟩ := c3
            injection ho with ho
            have hpb : Byt (plain ((m.drop 4).take n)) := plain_byt (byt_take (byt_drop hb 4) n)
            obtain ⟨q1, q2⟩ := bd_prs hpb o3 (by rw [o2]) (by rw [o2])
            rw [ho] at o3 q1 q2
            have hW : wr (bd f) = (m.drop 4).take n := by rw [q1]; exact only o1
            have hWl : (wr (bd f)).length = n := by rw [hW, List.length_take, List.length_drop]; omega
            have hD : dg 3 n = dig m := by
              have := dg_nm r2
              rw [dig_len, show min 3 (m.length - 1) = 3 by omega, ← r4] at this
              exact this
            have hT : dg 5 (Crc.go 0 ((m.drop 1).take (3 + n))) = (m.drop (4 + n)).take 5 := by
              have := dg_nm s1
              rw [List.length_take, List.length_drop, show min 5 (m.length - (4 + n)) = 5 by omega, s2] at this
              exact this
            have hmid : dig m ++ (m.drop 4).take n = (m.drop 1).take (3 + n) := by
              unfold dig
              rw [List.take_add, List.drop_drop]
            have hen : en f = 167 :: (dig m ++ ((m.drop 4).take n ++ (m.drop (4 + n)).take 5)) := by
              rw [en_eq, hWl, hW, hD, hmid, hT]
            have htake : m.take (n + 9) = 167 :: (dig m ++ ((m.drop 4).take n ++ (m.drop (4 + n)).take 5)) := by
              have e0 : m.take (n + 9) = m.take 1 ++ ((m.drop 1).take (3 + n) ++ (m.drop (4 + n)).take 5) := by
                rw [show n + 9 = 1 + (3 + n + 5) by omega, List.take_add, List.take_add, List.drop_drop, show 1 + (3 + n) = 4 + n by omega]
              have e1 : m.take 1 = [167] := by
                cases m with
                | nil => simp at r3
                | cons x t => simp at r1; simp [r1]
              rw [e0, e1, ← hmid]
              simp
            refine ⟨o3, q2, ?_, r5, ?_⟩
            · rw [en_len, hWl]
            · rw [htake, hen]
          · cases ho
theorem en_no {f : Fr} {j : Nat} (h1 : 1 ≤ j) (h2 : j < (en f).length) : (en f).getD j 0 ≠ 167 := by
  have key : ∀ x ∈ (en f).drop 1, x ≠ 167 := by
    rw [en_eq]
    intro x hx
    simp only [List.drop_succ_cons, List.drop_zero, List.mem_append] at hx
    rcases hx with hx | hx | hx
    · have := dg_lt _ _ x hx; omega
    · exact wr_no _ x hx
    · have := dg_lt _ _ x hx; omega
  refine key _ ?_
  rw [List.getD_eq_getElem?_getD, List.getElem?_eq_getElem h2, Option.getD_some]
  refine List.mem_iff_getElem.2 ⟨j - 1, by rw [List.length_drop]; omega, ?_⟩
  rw [List.getElem_drop]
  congr 1
  omega
theorem en_head (f : Fr) : (en f).getD 0 0 = 167 := by rw [en_eq]; rfl
theorem dcd_err {m : List Nat} (h : (dcd m).2.2 ≠ 0) : (dcd m).1 = zf ∧ (dcd m).2.1 = 0 := by
  unfold dcd at h ⊢
  by_cases h1 : (rl m).2 ≠ 0
  · rw [if_pos h1]; exact ⟨rfl, rfl⟩
  · rw [if_neg h1] at h ⊢
    by_cases h2 : nx ((m.drop 4).take (rl m).1) < (rl m).1
    · rw [if_pos h2]; exact ⟨rfl, rfl⟩
    · rw [if_neg h2] at h ⊢
      by_cases h3 : ¬ ((∀ x ∈ (m.drop (4 + (rl m).1)).take 5, x < 128) ∧ nm ((m.drop (4 + (rl m).1)).take 5) = Crc.go 0 ((m.drop 1).take (3 + (rl m).1)))
      · rw [if_pos h3]; exact ⟨rfl, rfl⟩
      · rw [if_neg h3] at h ⊢
        cases ho : opF ((m.drop 4).take (rl m).1) with
        | none => exact ⟨rfl, rfl⟩
        | some f => rw [ho] at h; exact absurd rfl h
theorem decF_ok {l : List Nat} {z : Int} (hb : Byt l) (h : (decF l z).2.2 = 0) : ∃ a : Nat, z = (a : Int) ∧ a < l.length ∧ rf (decF l z).1 = 0 ∧ (decF l z).1.Wf ∧ (decF l z).2.1 = (en (decF l z).1).length ∧ a + (decF l z).2.1 ≤ l.length ∧ (l.drop a).take (decF l z).2.1 = en (decF l z).1 := by
  unfold decF at h ⊢
  by_cases h1 : z < 0 ∨ (l.length : Int) ≤ z
  · rw [if_pos h1] at h; simp at h
  · rw [if_neg h1] at h ⊢
    obtain ⟨a, rfl⟩ : ∃ a : Nat, z = (a : Int) := ⟨z.toNat, by omega⟩
    rw [Int.toNat_natCast] at h ⊢
    obtain ⟨e1, e2, e3, e4, e5⟩ := en_dcd (byt_drop hb a) h
    rw [List.length_drop] at e4
    exact ⟨a, rfl, by omega, e1, e2, e3, by omega, e5⟩
theorem en_pos (f : Fr) : 9 ≤ (en f).length := by rw [en_len]; omega
/-- no two frames have a byte in common -/
theorem apart {l : List Nat} {x y : Int} (hb : Byt l) (hx : (decF l x).2.2 = 0) (hy : (decF l y).2.2 = 0) (hne : x < y) : x + ((decF l x).2.1 : Int) ≤ y := by
  obtain ⟨a, rfl, ha, _, _, a3, a4, a5⟩ := decF_ok hb hx
  obtain ⟨b, rfl, hb', _, _, b3, b4, b5⟩ := decF_ok hb hy
  have hab : a < b := by omega
  refine Classical.byContradiction fun hn => ?_
  have hlt : b < a + (decF l (a : Int)).2.1 := by omega
  have h1 : l.getD b 0 = 167 := by
    have e := congrArg (fun q => q.getD 0 0) b5
    rw [en_head] at e
    rw [← e, List.getD_eq_getElem?_getD, List.getD_eq_getElem?_getD, List.getElem?_take, if_pos (by rw [b3]; have := en_pos (decF l (b : Int)).1; omega), List.getElem?_drop, Nat.add_zero]
  have h2 := en_no (f := (decF l (a : Int)).1) (j := b - a) (by omega) (by rw [← a3]; omega)
  have e := congrArg (fun q => q.getD (b - a) 0) a5
  rw [← e, List.getD_eq_getElem?_getD, List.getElem?_take, if_pos (by omega), List.getElem?_drop, show a + (b - a) = b by omega, ← List.getD_eq_getElem?_getD] at h2
  exact h2 h1
end Vt
end Go.Proofs.YtolddolfpnkndaaGreat
