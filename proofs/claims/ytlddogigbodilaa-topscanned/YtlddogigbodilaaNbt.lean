/-
  A BODY THAT IS FRAMED BY HAND, PLAINLY; rows of the call's own that were written out.
  RECORDS OF RAW NUMBERS: the theorems' own pick, keyOf, valueOf, recordOf, framed, joined: whatever the numbers, a record that may be.
-/
import Derived.Test.YtlddogigbodilaaNbs
import Derived.Test.YtlddogigbodilaaNbr
namespace Go.Proofs.Ytlddogigbodilaa
open Go.RowKit
namespace Vt
theorem dcd_raw (W : List Nat) (S : Nat) (hno : ∀ x ∈ W, x ≠ 167) (hl : W.length < 2097152) (hSS : Crc.go 0 (dg 3 W.length ++ W) = S) : decF (167 :: (dg 3 W.length ++ (W ++ dg 5 S))) 0 = match opF W with | none => (zf, 0, 45) | some f => (f, W.length + 9, 0) := by
  have hS := Crc.go_lt 0 (dg 3 W.length ++ W)
  rw [hSS] at hS
  have hN3 : nm (dg 3 W.length) = W.length := by rw [nm_dg, p3]; omega
  have hS5 : nm (dg 5 S) = S := by rw [nm_dg, p5]; omega
  have d3 := dg_len 3 W.length
  have d5 := dg_len 5 S
  have hdig : dig (167 :: (dg 3 W.length ++ (W ++ dg 5 S))) = dg 3 W.length := by
    unfold dig
    rw [List.drop_succ_cons, List.drop_zero, List.take_append_of_le_length (by omega), List.take_of_length_le (by omega)]
  have hlen : (167 :: (dg 3 W.length ++ (W ++ dg 5 S))).length = W.length + 9 := by simp [d3, d5]; omega
  have hrl : rl (167 :: (dg 3 W.length ++ (W ++ dg 5 S))) = (W.length, 0) := by
    have := rl_0 (l := 167 :: (dg 3 W.length ++ (W ++ dg 5 S))) rfl (by rw [hdig]; exact dg_lt _ _) (by rw [hlen]; omega) (by rw [hdig, hN3, hlen]; omega)
    rw [this, hdig, hN3]
  have h4 : (167 :: (dg 3 W.length ++ (W ++ dg 5 S))).drop 4 = W ++ dg 5 S := by
    rw [show (4 : Nat) = 3 + 1 by omega, List.drop_succ_cons, List.drop_left' d3]
  have hE : ((167 :: (dg 3 W.length ++ (W ++ dg 5 S))).drop 4).take W.length = W := by rw [h4, List.take_left]
  have hT : ((167 :: (dg 3 W.length ++ (W ++ dg 5 S))).drop (4 + W.length)).take 5 = dg 5 S := by
    rw [← List.drop_drop, h4, List.drop_left, List.take_of_length_le (by omega)]
  have hM : ((167 :: (dg 3 W.length ++ (W ++ dg 5 S))).drop 1).take (3 + W.length) = dg 3 W.length ++ W := by
    rw [List.drop_succ_cons, List.drop_zero, ← List.append_assoc, List.take_left' (by rw [List.length_append, d3])]
  unfold decF
  rw [if_neg (by rw [hlen]; omega), show (0 : Int).toNat = 0 from rfl, List.drop_zero]
  unfold dcd
  rw [hrl]
  simp only
  rw [hE, hT, hM, if_neg (by simp), if_neg (by rw [nx_none hno]; omega), if_neg (fun q => q ⟨dg_lt _ _, by rw [hS5, hSS]⟩)]
  cases opF W <;> rfl
theorem opF_wr {l : List Nat} (hb : Byt l) {f : Fr} (h : opF (wr l) = some f) : rf f = 0 ∧ f.Wf ∧ bd f = l := by
  unfold opF at h
  split at h
  · rename_i c
    obtain ⟨o1, o2, o3⟩ := c
    rw [plain_wr] at o2 o3 h
    injection h with h
    obtain ⟨q1, q2⟩ := bd_prs hb o3 (by rw [o2]) (by rw [o2])
    rw [h] at o3 q1 q2
    exact ⟨o3, q2, q1⟩
  · cases h
/-- a list that is written out is a row of the call's own -/
theorem jb_lit (w : World) (base : Nat) (l : List Nat) (cs : Array Value) (n g : Nat) (hg : g = w.heap.size) (hcs : cs = (bs l).toArray) (hn : n = l.length) (hb : Byt l) (hm : l.length ≤ maxLen) (hbase : base ≤ w.heap.size) : JB (w.alloc (.cells cs 5)) base (.slice (some ⟨g, 0, none⟩) n n) l := by
  subst hg hcs hn
  refine ⟨hb, by simp [bs], .inr ⟨w.heap.size, l.length, (bs l).toArray, rfl, hbase, ?_, Nat.le_refl _, hm, by simp [bs], by rw [Nat.mul_one]; exact List.take_of_length_le (by simp [bs])⟩⟩
  show (w.heap.push _)[w.heap.size]? = _
  rw [Array.getElem?_push_size]
theorem dg3_eq (N : Nat) (h : N < 2097152) : dg 3 N = [N / 16384, N / 128 % 128, N % 128] := by
  simp only [dg]
  simp
  omega
theorem dg5_eq (S : Nat) (h : S < 4294967296) : dg 5 S = [S / 268435456, S / 2097152 % 128, S / 16384 % 128, S / 128 % 128, S % 128] := by
  simp only [dg]
  simp
  omega
theorem JB.alloc {w : World} {base : Nat} {v : Value} {l : List Nat} (h : JB w base v l) (o : Obj) : JB (w.alloc o) base v l := h.keepAll ((Below.refl _ _).alloc (Nat.le_refl _) _)
end Vt
end Go.Proofs.Ytlddogigbodilaa
namespace Go.Proofs.Ytlddogigbodilaa
open Go.ChangeShapes Go.WideShapes Go.ChangeAt Go.RowKit Go.Shelf
namespace Vt
theorem jb_lower {w : World} {b b' : Nat} {v : Value} {l : List Nat} (h : JB w b v l) (hb : b' ≤ b) : JB w b' v l := by
  obtain ⟨q1, q2, q3⟩ := h
  refine ⟨q1, q2, ?_⟩
  rcases q3 with q3 | ⟨g, cap, cur, e1, e2, e3⟩
  · exact .inl q3
  · exact .inr ⟨g, cap, cur, e1, by omega, e3⟩
set_option maxRecDepth 100000 in
set_option maxHeartbeats 1000000 in
theorem framed_is (r : Rec) (w : World) (hw : (ofR r).Wf) (h : rf (ofR r) = 0) :
    Calls Try.prog 43 #[.agg #[.int .u64 (r.lsn : Int), .int .i64 r.kind, .string r.key, .string r.val]] w fun e w' => ∃ u, e = .returned u ∧ JB w' w.heap.size u (en (ofR r)) ∧ Below w.heap.size w w' := by
  have HEN : Hid (∀ x : World, Calls Try.prog 67 #[.agg #[.int .i64 r.kind, .int .u64 (r.lsn : Int), .int .i64 r.kind, .string r.key, .string r.val, .int .u64 0, .int .i64 0, .int .i64 0, .int .i64 0, .string ⟨#[]⟩, .int .i64 0, .int .i64 0, .int .i64 0, .int .u32 0]] x fun e w' => ∃ u, e = .returned (.tuple #[u, .int .i64 0]) ∧ JB w' x.heap.size u (en (ofR r)) ∧ Below x.heap.size x w') := fun x => encF_all hw h x
  obtain ⟨E, hE⟩ : ∃ E, E = en (ofR r) := ⟨_, rfl⟩
  simp only [← hE] at HEN ⊢
  clear hE hw h
  obtain ⟨lsn, kind, key, val⟩ := r
  simp only at HEN ⊢
  go_enter Try.func43, Try.ntmps43
  go_wp2_with fail
  refine Calls.mono (HEN.out _) ?_
  rintro e w1 ⟨u, rfl, j1, b1⟩
  obtain ⟨a1, c1, rfl, hc1⟩ := JK.shape (k := .u8) (M := 256) (E := 5) j1
  have J1 := hd j1
  have B1 := hd b1
  clear j1 b1 HEN
  go_wp2_with fail
  go_ret
  exact ⟨_, rfl, jb_lower J1.out (by simp), ((Below.refl _ w).alloc (Nat.le_refl _) _).trans (B1.out.mono (by simp))⟩
end Vt
end Go.Proofs.Ytlddogigbodilaa
