/-
  THE WALKS OF the laws' own 'same' (by string), 'awake'.
-/
import Derived.Test.YtojogadklhmkbaaE3
namespace Go.Proofs.Ytojogadklhmkbaa
open Go.RowKit
namespace Vt
/-- bytes as a string -/
def str (l : List Nat) : ByteArray := (l.map fun x => ((x : Nat) : Int)).foldl (fun r n => r.push (UInt8.ofNat n.toNat)) ByteArray.empty
theorem str_data (l : List Nat) : (str l).data = (l.map UInt8.ofNat).toArray := by
  have key : ∀ (l : List Nat) (r : ByteArray), ((l.map fun x => ((x : Nat) : Int)).foldl (fun r n => r.push (UInt8.ofNat n.toNat)) r).data = r.data ++ (l.map UInt8.ofNat).toArray := by
    intro l
    induction l with
    | nil => intro r; simp
    | cons x q ih =>
      intro r
      simp only [List.map_cons, List.foldl_cons, Int.toNat_natCast]
      rw [ih]
      simp [ByteArray.push]
  have := key l ByteArray.empty
  unfold str
  rw [this]; simp
theorem str_inj {la lb : List Nat} (ha : Byt la) (hb : Byt lb) : str la = str lb ↔ la = lb := by
  constructor
  · intro h
    have h2 := congrArg ByteArray.data h
    rw [str_data, str_data] at h2
    have h3 : la.map UInt8.ofNat = lb.map UInt8.ofNat := by simpa using h2
    clear h h2
    induction la generalizing lb with
    | nil => cases lb with
      | nil => rfl
      | cons y r => simp at h3
    | cons x q ih =>
      cases lb with
      | nil => simp at h3
      | cons y r =>
        simp only [List.map_cons, List.cons.injEq] at h3
        have hx := ha x List.mem_cons_self
        have hy := hb y List.mem_cons_self
        have e := congrArg UInt8.toNat h3.1
        simp only [UInt8.toNat_ofNat'] at e
        rw [ih (fun z hz => ha z (List.mem_cons_of_mem _ hz)) (fun z hz => hb z (List.mem_cons_of_mem _ hz)) h3.2]
        congr 1
        omega
  · intro h; rw [h]
theorem str_eq {la lb : List Nat} (ha : Byt la) (hb : Byt lb) : ((str la).toList == (str lb).toList) = decide (la = lb) := by
  by_cases h : la = lb
  · subst h; simp
  · rw [decide_eq_false h, ByteArray.toList_eq, ByteArray.toList_eq, beq_eq_false_iff_ne]
    intro e
    exact h ((str_inj ha hb).1 (Go.WideShapes.bytes_inj e))
theorem conv_is (w : World) (v : Value) (l : List Nat) (h : IsB w v l) : (convert 22 9 v).run Try.prog w = .ok (.string (str l)) w := by
  obtain ⟨a, c, rfl⟩ := h.shape
  rw [run_convert_bytes_string w _ _ 5 _ _ _ Try.underlying22 Try.underlying5 Try.underlying9]
  cases a with
  | none =>
    obtain ⟨_, _, ⟨rfl, a', c', e⟩ | ⟨b, off, c', e, _⟩⟩ := h
    · rfl
    · cases e
  | some ad =>
    refine run_bytesToString w ad _ _ (l.map fun x => ((x : Nat) : Int)) ?_
    obtain ⟨_, _, ⟨rfl, a', c', e⟩ | ⟨b, off, c', e, _, _, _, hr⟩⟩ := h
    · rfl
    · injection e with e1 e2 e3
      injection e1 with e1
      subst e1
      have := run_loadCells_list (P := Try.prog) w ⟨b, off, none⟩ (bs l) (news_of_row hr)
      rw [bs_len] at this
      rw [this]
      unfold bs
      rw [List.map_map]; rfl
set_option maxRecDepth 100000 in
set_option maxHeartbeats 400000 in
theorem esame_is (va vb : Value) (la lb : List Nat) (w : World) (hA : IsB w va la) (hB : IsB w vb lb) :
    Calls Try.prog 24 #[va, vb] w fun e w' => e = .returned (.bool (decide (la = lb))) ∧ w' = w := by
  have c1 := conv_is w va la hA
  have c2 := conv_is w vb lb hB
  have HE := hd (str_eq hA.1 hB.1)
  clear hA hB
  go_enter Try.func24, Try.ntmps24
  go_wp2_with fail
  go_ret
  exact ⟨by rw [HE.out]; rfl, rfl⟩
theorem awake_wr : wr [167, 0, 166] = [166, 1, 0, 166, 0] := by decide
set_option maxRecDepth 100000 in
set_option maxHeartbeats 400000 in
theorem awake_is (w : World) : Calls Try.prog 21 #[] w fun e w' => e = .returned (.bool true) ∧ Below w.heap.size w w' := by
  go_enter Try.func21, Try.ntmps21
  go_wp2_with fail
  have h1 := wrap_is _ [167, 0, 166] _ (lit_isK .u8 256 w #[.int .u8 167, .int .u8 0, .int .u8 166] 5 [167, 0, 166] 3 rfl rfl (by decide) (by decide)) (by decide)
  rw [awake_wr] at h1
  refine Calls.mono h1 ?_
  rintro e w1 ⟨rfl, hj1, hb1⟩
  have hsz : (w.alloc (.cells #[.int .u8 167, .int .u8 0, .int .u8 166] 5)).heap.size = w.heap.size + 1 := by simp
  rw [hsz] at hj1 hb1 ⊢
  have HB1 : Hid (Below w.heap.size w w1) := ((Below.refl _ _).alloc (Nat.le_refl _) _).trans (hb1.mono (by omega))
  have HJ1 := hd hj1.isB
  clear h1 hj1 hb1 hsz
  go_wp2_with fail
  refine Calls.mono (esame_is _ _ [166, 1, 0, 166, 0] [166, 1, 0, 166, 0] _ (HJ1.out.below ((Below.refl _ _).alloc (Nat.le_refl _) _)) (lit_isK .u8 256 w1 #[.int .u8 166, .int .u8 1, .int .u8 0, .int .u8 166, .int .u8 0] 5 [166, 1, 0, 166, 0] 5 rfl rfl (by decide) (by decide))) ?_
  rintro e w2 ⟨rfl, hw2⟩
  have HB2 : Hid (Below w.heap.size w w2) := by rw [hw2]; exact HB1.out.alloc HB1.out.size _
  clear hw2
  rw [show decide (([166, 1, 0, 166, 0] : List Nat) = [166, 1, 0, 166, 0]) = true by decide]
  go_wp2_with fail
  go_ret
  exact ⟨rfl, HB2.out⟩
end Vt
end Go.Proofs.Ytojogadklhmkbaa
