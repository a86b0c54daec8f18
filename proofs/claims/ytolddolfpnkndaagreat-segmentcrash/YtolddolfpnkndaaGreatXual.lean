/-
  THE WALKS OF names.written, Make, Temp.
  THE WALKS OF names.written, Make, Temp, Pair.
-/
import Derived.Test.YtolddolfpnkndaaGreatXuak
import Derived.Test.YtolddolfpnkndaaGreatXuab
namespace Go.Proofs.YtolddolfpnkndaaGreat
open Go.RowKit
namespace Nam
open Vt
theorem parse_tmp (s : ByteArray) (w : World) (hs : s.size ≤ maxLen) (h : tmpL <:+ bl s) :
    Calls Tryz.prog 102 #[.string s] w fun e w' => e = .returned (.tuple #[.int .i64 4, .int .u32 0]) ∧ w' = w := by
  have hs0 : s.size ≤ 9223372036854775807 := by unfold maxLen at hs; omega
  go_enter Tryz.func102, Tryz.ntmps102
  go_wp2_with fail
  refine Calls.mono (strings_HasSuffix _ _ _ hs0) ?_
  rintro e w' ⟨rfl, rfl⟩
  rw [show Lib.hasSuffix s.data.toList [46, 116, 109, 112] = true from (has_suf s ⟨#[46, 116, 109, 112]⟩).trans (decide_eq_true (p := bl ⟨#[46, 116, 109, 112]⟩ <:+ bl s) h)]
  go_wp2_with fail
  go_ret2
  exact ⟨rfl, rfl⟩
theorem ix3 (a b c : Value) (w : World) : (Instr.index 198 (.agg #[a, b, c]) (.int .i64 0)).run Tryz.prog w = .ok a w ∧ (Instr.index 198 (.agg #[a, b, c]) (.int .i64 1)).run Tryz.prog w = .ok b w ∧ (Instr.index 198 (.agg #[a, b, c]) (.int .i64 2)).run Tryz.prog w = .ok c w := by
  refine ⟨?_, ?_, ?_⟩ <;> simp [Instr.index, asIntOf, run_underlying Tryz.underlying198, go_sem]
set_option maxRecDepth 100000 in
set_option maxHeartbeats 400000 in
theorem parse_no (s : ByteArray) (w : World) (hs : s.size ≤ maxLen) (h : ¬ tmpL <:+ bl s) :
    Calls Tryz.prog 102 #[.string s] w fun e w' => e = .returned (.tuple #[.int .i64 (((prs (bl s)).1 : Nat) : Int), .int .u32 (((prs (bl s)).2 : Nat) : Int)]) ∧ w' = w := by
  have hs0 : s.size ≤ 9223372036854775807 := by unfold maxLen at hs; omega
  go_enter Tryz.func102, Tryz.ntmps102
  go_wp2_with fail
  refine Calls.mono (strings_HasSuffix _ _ _ hs0) ?_
  rintro e w' ⟨rfl, rfl⟩
  rw [show Lib.hasSuffix s.data.toList [46, 116, 109, 112] = false from (has_suf s ⟨#[46, 116, 109, 112]⟩).trans (decide_eq_false (p := bl ⟨#[46, 116, 109, 112]⟩ <:+ bl s) h)]
  go_wp2_with fail
  go_loop [10] (fun i => ∃ z : Int, i = .int .i64 z ∧ (z = 0 ∨ (z = 1 ∧ numIn 1 (bl s) = 0) ∨ (z = 2 ∧ numIn 1 (bl s) = 0 ∧ numIn 2 (bl s) = 0) ∨ (z = 3 ∧ numIn 1 (bl s) = 0 ∧ numIn 2 (bl s) = 0 ∧ numIn 3 (bl s) = 0))) (fun i => 3 - (intOf i).toNat)
  case atStart => exact ⟨0, rfl, .inl rfl⟩
  case round =>
    have hl1 := numIn_lt 1 (bl s)
    have hl2 := numIn_lt 2 (bl s)
    have hl3 := numIn_lt 3 (bl s)
    have hx0 := fun w => (ix3 (.int .i64 1) (.int .i64 2) (.int .i64 3) w).1
    have hx1 := fun w => (ix3 (.int .i64 1) (.int .i64 2) (.int .i64 3) w).2.1
    have hx2 := fun w => (ix3 (.int .i64 1) (.int .i64 2) (.int .i64 3) w).2.2
    obtain ⟨z, rfl, rfl | ⟨rfl, q1⟩ | ⟨rfl, q1, q2⟩ | ⟨rfl, q1, q2, q3⟩⟩ := hrel
    · go_wp2_with fail
      refine Calls.mono (numberIn_is s 1 (.inl rfl) _ hs) ?_
      rintro e w' ⟨rfl, rfl⟩
      rcases Nat.eq_zero_or_pos (numIn 1 (bl s)) with q1 | q1
      · have HQ1 := hd q1
        rw [q1]
        go_wp2_with fail
        go_round
        case rel => exact ⟨1, rfl, .inr (.inl ⟨rfl, HQ1.out⟩)⟩
        case measure => simp [intOf]
      · have HR : Hid (prs (bl s) = (1, numIn 1 (bl s))) := by
          show prs (bl s) = _
          unfold prs; rw [if_neg h, if_pos q1]
        generalize numIn 1 (bl s) = n at *
        go_wp2_with fail
        go_ret2
        exact ⟨by rw [HR.out]; rfl, rfl⟩
    · have HQ1 := hd q1
      clear q1
      go_wp2_with fail
      refine Calls.mono (numberIn_is s 2 (.inr (.inl rfl)) _ hs) ?_
      rintro e w' ⟨rfl, rfl⟩
      rcases Nat.eq_zero_or_pos (numIn 2 (bl s)) with q1 | q1
      · have HQ2 := hd q1
        rw [q1]
        go_wp2_with fail
        go_round
        case rel => exact ⟨2, rfl, .inr (.inr (.inl ⟨rfl, HQ1.out, HQ2.out⟩))⟩
        case measure => simp [intOf]
      · have HR : Hid (prs (bl s) = (2, numIn 2 (bl s))) := by
          show prs (bl s) = _
          unfold prs; rw [if_neg h, if_neg (by rw [HQ1.out]; omega), if_pos q1]
        generalize numIn 2 (bl s) = n at *
        go_wp2_with fail
        go_ret2
        exact ⟨by rw [HR.out]; rfl, rfl⟩
    · have HQ1 := hd q1
      have HQ2 := hd q2
      clear q1 q2
      go_wp2_with fail
      refine Calls.mono (numberIn_is s 3 (.inr (.inr rfl)) _ hs) ?_
      rintro e w' ⟨rfl, rfl⟩
      rcases Nat.eq_zero_or_pos (numIn 3 (bl s)) with q1 | q1
      · have HQ3 := hd q1
        rw [q1]
        go_wp2_with fail
        go_round
        case rel => exact ⟨3, rfl, .inr (.inr (.inr ⟨rfl, HQ1.out, HQ2.out, HQ3.out⟩))⟩
        case measure => simp [intOf]
      · have HR : Hid (prs (bl s) = (3, numIn 3 (bl s))) := by
          show prs (bl s) = _
          unfold prs; rw [if_neg h, if_neg (by rw [HQ1.out]; omega), if_neg (by rw [HQ2.out]; omega), if_pos q1]
        generalize numIn 3 (bl s) = n at *
        go_wp2_with fail
        go_ret2
        exact ⟨by rw [HR.out]; rfl, rfl⟩
    · have HR : Hid (prs (bl s) = (0, 0)) := by
        show prs (bl s) = _
        unfold prs; rw [if_neg h, if_neg (by omega), if_neg (by omega), if_neg (by omega)]
      clear q1 q2 q3 hl1 hl2 hl3
      go_wp2_with fail
      go_ret2
      exact ⟨by rw [HR.out]; rfl, rfl⟩
theorem parse_is (s : ByteArray) (w : World) (hs : s.size ≤ maxLen) :
    Calls Tryz.prog 102 #[.string s] w fun e w' => e = .returned (.tuple #[.int .i64 (((prs (bl s)).1 : Nat) : Int), .int .u32 (((prs (bl s)).2 : Nat) : Int)]) ∧ w' = w := by
  by_cases h : tmpL <:+ bl s
  · have e : prs (bl s) = (4, 0) := by unfold prs; rw [if_pos h]
    rw [e]; exact parse_tmp s w hs h
  · exact parse_no s w hs h
end Nam
end Go.Proofs.YtolddolfpnkndaaGreat
namespace Go.Proofs.YtolddolfpnkndaaGreat
open Go.RowKit
namespace Nam
open Vt
theorem conv_is (w : World) (v : Value) (l : List Nat) (h : IsB w v l) : (convert 49 9 v).run Tryz.prog w = .ok (.string (str l)) w := by
  obtain ⟨a, c, rfl⟩ := h.shape
  rw [run_convert_bytes_string w _ _ 5 _ _ _ Tryz.underlying49 Tryz.underlying5 Tryz.underlying9]
  cases a with
  | none =>
    obtain ⟨_, _, ⟨rfl, a', c', e⟩ | ⟨b, off, c', e, _⟩⟩ := h
    · rfl
    · cases e
  | some ad =>
    refine run_bytesToString w ad _ _ (l.map fun x => ((x : Nat) : Int)) ?_
    obtain ⟨_, _, ⟨rfl, a', c', e⟩ | ⟨b, off, c', e, _, _, _, hr⟩⟩ := h
    · rfl
    · injection e with e1 e2 e3
      injection e1 with e1
      subst e1
      have := run_loadCells_list (P := Tryz.prog) w ⟨b, off, none⟩ (bs l) (news_of_row hr)
      rw [bs_len] at this
      rw [this]
      unfold bs
      rw [List.map_map]; rfl
theorem buf_zero (w : World) (T : TypeId) : Buf (w.alloc (.cells #[.int .u8 0, .int .u8 0, .int .u8 0, .int .u8 0, .int .u8 0, .int .u8 0, .int .u8 0, .int .u8 0] T)) w.heap.size 8 (List.replicate 8 0) := by
  have hb : Blk (w.alloc (.cells [Value.int .u8 0, .int .u8 0, .int .u8 0, .int .u8 0, .int .u8 0, .int .u8 0, .int .u8 0, .int .u8 0].toArray T)) w.heap.size T [.int .u8 0, .int .u8 0, .int .u8 0, .int .u8 0, .int .u8 0, .int .u8 0, .int .u8 0, .int .u8 0] := Blk.new w T _
  refine ⟨by simp, by unfold maxLen; omega, hb.lt, by intro x hx; simp at hx; omega, fun k hk => ?_, fun k _ => hb.frozen k⟩
  rw [List.length_replicate] at hk
  rw [Nat.zero_add]
  refine hb.cell k _ ?_
  rcases k with _ | _ | _ | _ | _ | _ | _ | _ | k
  all_goals first | rfl | omega
theorem bl_app (s t : ByteArray) : bl (s ++ t) = bl s ++ bl t := by
  rw [bl_def, bl_def, bl_def, ← List.map_append]
  congr 1
theorem str_app (a b : List Nat) (ha : Byt a) (hb : Byt b) : str a ++ str b = str (a ++ b) := by
  refine bl_inj ?_
  rw [bl_app, bl_str ha, bl_str hb, bl_str (byt_app ha hb)]
theorem atl_len (c : Nat) : (atl c).length ≤ 5 := by
  unfold atl
  split
  · decide
  · split <;> decide
theorem digits_at (d : Nat) (h : d < 16) : ((⟨#[48, 49, 50, 51, 52, 53, 54, 55, 56, 57, 97, 98, 99, 100, 101, 102]⟩ : ByteArray)[d]'h).toNat = hx d := by
  have : ∀ d : Fin 16, ((⟨#[48, 49, 50, 51, 52, 53, 54, 55, 56, 57, 97, 98, 99, 100, 101, 102]⟩ : ByteArray)[d.val]'d.isLt).toNat = hx d.val := by decide
  exact this ⟨d, h⟩
set_option maxRecDepth 100000 in
set_option maxHeartbeats 400000 in
theorem written_is (n : Nat) (hn : n < 4294967296) (w : World) :
    Calls Tryz.prog 91 #[.int .u32 (n : Int)] w fun e w' => e = .returned (.string (str (hex 8 n))) ∧ Below w.heap.size w w' := by
  go_enter Tryz.func91, Tryz.ntmps91
  go_wp2_with fail
  go_loopw [0, 4] (fun y i wr => ∃ j : Nat, j ≤ 8 ∧ i = .int .i64 (7 - (j : Int)) ∧ y = .int .u32 ((n / 16 ^ j : Nat) : Int) ∧ Buf wr w.heap.size 8 (List.replicate (8 - j) 0 ++ hex j n) ∧ Below w.heap.size w wr) (fun _ i _ => (intOf i + 1).toNat)
  case atStart => exact ⟨0, by omega, rfl, by rw [Nat.pow_zero, Nat.div_one], by rw [hex, List.append_nil]; exact buf_zero w _, (Below.refl _ _).alloc (Nat.le_refl _) _⟩
  case round =>
    obtain ⟨j, hj, rfl, rfl, hO, hB⟩ := hrel
    have HO := hd hO
    have HB := hd hB
    clear hO hB
    by_cases hlt : j < 8
    · obtain ⟨p, hp⟩ : ∃ p : Nat, p = 7 - j := ⟨_, rfl⟩
      have hpi : 7 - (j : Int) = (p : Int) := by omega
      have hpc : p < 8 := by omega
      have hll : 8 = (List.replicate (8 - j) 0 ++ hex j n).length := by rw [List.length_append, List.length_replicate, hex_len]; omega
      have hcell := HO.out.cell (j := p) (by omega)
      have hfro := HO.out.2.2.2.2.2 p (by omega)
      have hd16 : n / 16 ^ j % 16 < 16 := by omega
      have HO2 := hd (HO.out.set (j := p) (y := hx (n / 16 ^ j % 16)) (by omega) (hx_lt hd16))
      have HS := hd (hex_step 8 j n hlt)
      rw [show 8 - 1 - j = p by omega] at HS
      rw [HS.out] at HO2
      have hqe : n / 16 ^ (j + 1) = n / 16 ^ j / 16 := by rw [Nat.pow_succ, Nat.div_div_eq_div_mul]
      have HQE := hd hqe
      generalize hq : n / 16 ^ j = q at *
      have hq2 : q < 4294967296 := by have := Nat.div_le_self n (16 ^ j); omega
      rw [hpi]
      have HP := hd hp
      have HLT := hd hlt
      have HPI := hd hpi
      have HDG := hd (digits_at (q % 16) hd16)
      clear hlt hp hpi hq hj hqe hll
      go_wp2_with fail
      rw [HDG.out]
      refine ⟨⟨j + 1, HLT.out, ?_, by rw [HQE.out]; rfl, HO2.out, HB.out.setCell (Nat.le_refl _) _⟩, by simp [intOf]⟩
      have := HPI.out
      congr 1
      omega
    · have hpi : 7 - (j : Int) = -1 := by omega
      have e8 : j = 8 := by omega
      rw [hpi]
      have HO3 : Hid (Buf wr w.heap.size 8 (hex 8 n)) := by
        show Buf wr w.heap.size 8 (hex 8 n)
        have := HO.out
        rw [e8] at this
        exact this
      have hcv := conv_is wr (.slice (some ⟨w.heap.size, 0, none⟩) 8 8) (hex 8 n) (HO3.out.isB (hex_len 8 n).symm)
      clear hj hlt hpi e8
      go_wp2_with fail
      go_ret
      exact ⟨rfl, HB.out⟩
set_option maxRecDepth 100000 in
set_option maxHeartbeats 400000 in
theorem make_ok (c n : Nat) (hc : Cl c) (hn : Nu n) (w : World) :
    Calls Tryz.prog 64 #[.int .i64 (c : Int), .int .u32 (n : Int)] w fun e w' => e = .returned (.tuple #[.string (str (mk c n)), .int .i64 0]) ∧ Below w.heap.size w w' := by
  obtain ⟨hn1, hn2⟩ := hn
  go_enter Tryz.func64, Tryz.ntmps64
  go_wp2_with fail
  refine Calls.mono (around_is c hc w) ?_
  rintro e w' ⟨rfl, rfl⟩
  go_wp2_with fail
  refine Calls.mono (written_is n hn2 _) ?_
  rintro e w' ⟨rfl, hB⟩
  have HB := hd hB
  clear hB
  have hz1 : (str (ahd c)).size = 4 := by rw [str_size (ahd_byt c), ahd_len]
  have hz2 : (str (hex 8 n)).size = 8 := by rw [str_size (hex_byt 8 n), hex_len]
  have hz3 : (str (atl c)).size ≤ 5 := by rw [str_size (atl_byt c)]; exact atl_len c
  have HA : Hid (str (ahd c) ++ str (hex 8 n) ++ str (atl c) = str (mk c n)) := by
    show str (ahd c) ++ str (hex 8 n) ++ str (atl c) = str (mk c n)
    rw [str_app _ _ (ahd_byt c) (hex_byt 8 n), str_app _ _ (byt_app (ahd_byt c) (hex_byt 8 n)) (atl_byt c), List.append_assoc]
    rfl
  go_wp2_with fail
  go_ret2
  exact ⟨by rw [← HA.out]; rfl, HB.out⟩
/-- what Pair tells -/
def pa (l : List Nat) : List Nat := if (prs l).1 = 1 then mk 2 (prs l).2 else if (prs l).1 = 2 then mk 1 (prs l).2 else []
def pb (l : List Nat) : Bool := decide ((prs l).1 = 1 ∨ (prs l).1 = 2)
end Nam
end Go.Proofs.YtolddolfpnkndaaGreat
