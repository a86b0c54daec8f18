/-
  THE WALKS OF names.read and names.numberIn: what 'rd' and 'numIn' say.
  THE WALKS OF names.written, Make, Temp.
  THE WALKS OF names.written, Make, Temp, Pair.
  THE WALKS OF the laws' awake, pick, sort; of the document's own digits, head, tail, Make.
  WHAT Fresh TELLS, plainly; a slice of strings; the walks of names.owner, takes, slices.Index of bools, Fresh.
-/
import Derived.Test.YtnakaomgceoobaaGreatMd
import Derived.Test.YtnakaomgceoobaaGreatMa
namespace Go.Proofs.YtnakaomgceoobaaGreat
open Go.RowKit
namespace Nam
open Vt
theorem toNat_inj : ∀ a b : UInt8, a.toNat = b.toNat → a = b := fun _ _ h => UInt8.toNat_inj.1 h
theorem bl_def (s : ByteArray) : bl s = s.data.toList.map UInt8.toNat := rfl
theorem map_inj8 {a b : List UInt8} (h : a.map UInt8.toNat = b.map UInt8.toNat) : a = b := List.map_inj_right (fun _ _ h => UInt8.toNat_inj.1 h) |>.1 h
theorem suf_map {a b : List UInt8} : a.map UInt8.toNat <:+ b.map UInt8.toNat ↔ a <:+ b := by
  constructor
  · intro h
    rw [List.suffix_iff_eq_drop, List.length_map, List.length_map, ← List.map_drop] at h
    rw [List.suffix_iff_eq_drop]
    exact map_inj8 h
  · exact fun h => h.map _
theorem pre_map {a b : List UInt8} : a.map UInt8.toNat <+: b.map UInt8.toNat ↔ a <+: b := by
  constructor
  · intro h
    rw [List.prefix_iff_eq_take, List.length_map, ← List.map_take] at h
    rw [List.prefix_iff_eq_take]
    exact map_inj8 h
  · exact fun h => h.map _
theorem has_suf (s p : ByteArray) : Lib.hasSuffix s.data.toList p.data.toList = decide (bl p <:+ bl s) := by
  unfold Lib.hasSuffix
  rw [Bool.eq_iff_iff, List.isSuffixOf_iff_suffix, decide_eq_true_iff, bl_def, bl_def, suf_map]
theorem has_pre (s p : ByteArray) : Lib.hasPrefix s.data.toList p.data.toList = decide (bl p <+: bl s) := by
  unfold Lib.hasPrefix
  rw [Bool.eq_iff_iff, List.isPrefixOf_iff_prefix, decide_eq_true_iff, bl_def, bl_def, pre_map]
theorem bl_mk (l : List UInt8) : bl ⟨l.toArray⟩ = l.map UInt8.toNat := by rw [bl_def]
theorem mk_str (l : List UInt8) : (⟨l.toArray⟩ : ByteArray) = str (l.map UInt8.toNat) := by rw [← bl_mk, str_bl]
/-- what read tells -/
def rd (l : List Nat) : Nat := if l.length = 8 ∧ ∀ x ∈ l, hv x < 16 then val l else 0
set_option maxRecDepth 100000 in
theorem digit_ix (x : Nat) (h : x < 256) : Lib.indexByte [48, 49, 50, 51, 52, 53, 54, 55, 56, 57, 97, 98, 99, 100, 101, 102] (UInt8.ofNat x) = if hv x < 16 then ((hv x : Nat) : Int) else -1 := by
  have : ∀ x : Fin 256, Lib.indexByte [48, 49, 50, 51, 52, 53, 54, 55, 56, 57, 97, 98, 99, 100, 101, 102] (UInt8.ofNat x.val) = if hv x.val < 16 then ((hv x.val : Nat) : Int) else -1 := by decide
  exact this ⟨x, h⟩
theorem bl_get (s : ByteArray) (k : Nat) (h : k < s.size) : (s[k]'h).toNat = (bl s).getD k 0 := by
  rw [List.getD_eq_getElem?_getD, bl_def, List.getElem?_map]
  have : s.data.toList[k]? = some s[k] := by
    rw [Array.getElem?_toList]
    exact Array.getElem?_eq_getElem h
  rw [this]; rfl
set_option maxRecDepth 100000 in
set_option maxHeartbeats 400000 in
theorem read_is (s : ByteArray) (w : World) :
    Calls Tryz.prog 111 #[.string s] w fun e w' => e = .returned (.int .u32 ((rd (bl s) : Nat) : Int)) ∧ w' = w := by
  have HL := hd (bl_len s)
  by_cases h8 : s.size = 8
  · go_enter Tryz.func111, Tryz.ntmps111
    go_wp2_with fail
    go_loop [3, 9] (fun s' i => ∃ k : Nat, k ≤ 8 ∧ i = .int .i64 (k : Int) ∧ s' = .int .u32 ((val ((bl s).take k) : Nat) : Int) ∧ ∀ x ∈ (bl s).take k, hv x < 16) (fun _ i => 8 - (intOf i).toNat)
    case atStart => exact ⟨0, by omega, rfl, rfl, by intro x hx; simp at hx⟩
    case round =>
      obtain ⟨k, hk, rfl, rfl, he⟩ := hrel
      have HE := hd he
      clear he
      by_cases hlt : k < 8
      · have hli : ((k : Nat) : Int) < 8 := by omega
        have hx := getD_lt (bl_byt s) k
        have HX := hd (bl_get s k (by omega))
        have HT := hd (take_succ_getD (l := bl s) (k := k) (by rw [HL.out]; omega))
        obtain ⟨x, hxe⟩ : ∃ x, x = (bl s).getD k 0 := ⟨_, rfl⟩
        rw [← hxe] at hx HX HT
        clear hxe
        have HS := hd (val_snoc ((bl s).take k) x)
        rw [← HT.out] at HS
        have hvl := val_lt HE.out
        rw [List.length_take, show min k (bl s).length = k by rw [HL.out]; omega] at hvl
        have hb8 : val ((bl s).take k) < 268435456 := by
          have : 16 ^ k ≤ 16 ^ 7 := Nat.pow_le_pow_right (by omega) (by omega)
          omega
        clear hvl
        go_wp2_with fail
        refine Calls.mono (strings_IndexByte _ _ _) ?_
        rintro e w' ⟨rfl, rfl⟩
        rw [show ((((s[k]'(by omega)).toNat : Nat) : Int).toNat.toUInt8) = UInt8.ofNat x by rw [Int.toNat_natCast, HX.out]]
        have HI : Hid _ := digit_ix x hx
        by_cases hg : hv x < 16
        · rw [if_pos hg] at HI
          rw [HI.out]
          have HE2 : Hid (∀ y ∈ (bl s).take (k + 1), hv y < 16) := by
            show ∀ y ∈ (bl s).take (k + 1), hv y < 16
            rw [HT.out]
            intro y hy
            rcases List.mem_append.1 hy with hy | hy
            · exact HE.out y hy
            · simp at hy; rw [hy]; exact hg
          generalize val ((bl s).take k) = n at *
          generalize hv x = d at *
          go_wp2_with fail
          go_round
          case rel => exact ⟨k + 1, by omega, by go_num, by rw [HS.out, Int.natCast_add, Int.natCast_mul]; rfl, HE2.out⟩
          case measure => simp [intOf]; omega
        · rw [if_neg hg] at HI
          rw [HI.out]
          have HR : Hid (rd (bl s) = 0) := by
            show rd (bl s) = 0
            unfold rd
            rw [if_neg]
            rintro ⟨_, h2⟩
            refine hg (h2 x ?_)
            have : x ∈ (bl s).take (k + 1) := by rw [HT.out]; simp
            exact List.mem_of_mem_take this
          clear hg
          generalize val ((bl s).take k) = n at *
          go_wp2_with fail
          go_ret
          exact ⟨by rw [HR.out]; rfl, rfl⟩
      · have hli : ¬ ((k : Nat) : Int) < 8 := by omega
        have HR : Hid (rd (bl s) = val ((bl s).take k)) := by
          show rd (bl s) = val ((bl s).take k)
          have HE' := HE.out
          rw [List.take_of_length_le (by rw [HL.out]; omega)] at HE' ⊢
          unfold rd; rw [if_pos ⟨by rw [HL.out, h8], HE'⟩]
        clear hk hlt
        generalize val ((bl s).take k) = n at *
        go_wp2_with fail
        go_ret
        exact ⟨by rw [HR.out]; rfl, rfl⟩
  · have HR : Hid (rd (bl s) = 0) := by
      show rd (bl s) = 0
      unfold rd; rw [if_neg (by rw [HL.out]; omega)]
    go_enter Tryz.func111, Tryz.ntmps111
    go_wp2_with fail
    go_ret
    exact ⟨by rw [HR.out]; rfl, rfl⟩
theorem numIn_split (c : Nat) (t : List Nat) : numIn c (ahd c ++ (t ++ atl c)) = rd t := by
  by_cases h : t.length = 8
  · unfold numIn rd
    rw [mid_mk c t h]
    by_cases h2 : ∀ x ∈ t, hv x < 16
    · rw [if_pos ⟨rfl, h, h2⟩, if_pos ⟨h, h2⟩]
    · rw [if_neg (fun q => h2 q.2.2), if_neg (fun q => h2 q.2)]
  · have e : rd t = 0 := by unfold rd; rw [if_neg (fun q => h q.1)]
    rw [e]
    rcases Nat.eq_zero_or_pos (numIn c (ahd c ++ (t ++ atl c))) with h1 | h1
    · exact h1
    · have h2 := (numIn_of h1).1
      unfold mk at h2
      have h3 := List.append_cancel_right (List.append_cancel_left h2)
      rw [h3, hex_len] at h
      exact absurd rfl h
theorem numIn_none {c : Nat} {s : List Nat} (h : ∀ t, s ≠ ahd c ++ (t ++ atl c)) : numIn c s = 0 := by
  rcases Nat.eq_zero_or_pos (numIn c s) with h1 | h1
  · exact h1
  · exact absurd (numIn_of h1).1 (h _)
theorem sz_bl {s : ByteArray} {l : List Nat} (h : bl s = l) : s.size = l.length := by rw [← bl_len, h]
theorem trim_pre (s p : ByteArray) (r : List Nat) (h : bl s = bl p ++ r) : (⟨(Lib.trimPrefix s.data.toList p.data.toList).toArray⟩ : ByteArray) = str r := by
  have h1 : Lib.hasPrefix s.data.toList p.data.toList = true := by rw [has_pre, decide_eq_true_iff, h]; exact ⟨r, rfl⟩
  unfold Lib.trimPrefix
  rw [h1, if_pos rfl, mk_str, List.map_drop, ← bl_def, h, List.drop_left' (by rw [bl_def, List.length_map])]
theorem trim_suf (s p : ByteArray) (r : List Nat) (h : bl s = r ++ bl p) : (⟨(Lib.trimSuffix s.data.toList p.data.toList).toArray⟩ : ByteArray) = str r := by
  have h1 : Lib.hasSuffix s.data.toList p.data.toList = true := by rw [has_suf, decide_eq_true_iff, h]; exact ⟨r, rfl⟩
  unfold Lib.trimSuffix
  rw [h1, if_pos rfl, mk_str, List.map_take, ← bl_def, h, List.take_left']
  have : s.data.toList.length = (bl s).length := by rw [bl_def, List.length_map]
  rw [this, h, List.length_append, bl_def, List.length_map]
  omega
theorem around_is (c : Nat) (hc : Cl c) (w : World) :
    Calls Tryz.prog 68 #[.int .i64 (c : Int)] w fun e w' => e = .returned (.tuple #[.string (str (ahd c)), .string (str (atl c)), .bool true]) ∧ w' = w := by
  rcases hc with rfl | rfl | rfl
  all_goals
    go_enter Tryz.func68, Tryz.ntmps68
    go_wp2
    go_ret3
    exact ⟨rfl, rfl⟩
theorem around_no (c : Int) (h1 : c ≠ 1) (h2 : c ≠ 2) (h3 : c ≠ 3) (w : World) :
    Calls Tryz.prog 68 #[.int .i64 c] w fun e w' => e = .returned (.tuple #[.string (str []), .string (str []), .bool false]) ∧ w' = w := by
  go_enter Tryz.func68, Tryz.ntmps68
  go_wp2
  go_ret3
  exact ⟨rfl, rfl⟩
theorem app_eq {α : Type} {a b c d : List α} (h : a ++ b = c ++ d) (hl : a.length = c.length) : a = c ∧ b = d := List.append_inj h hl
set_option maxRecDepth 100000 in
set_option maxHeartbeats 400000 in
theorem numberIn_is (s : ByteArray) (c : Nat) (hc : Cl c) (w : World) (hs : s.size ≤ maxLen) :
    Calls Tryz.prog 102 #[.string s, .int .i64 (c : Int)] w fun e w' => e = .returned (.int .u32 ((numIn c (bl s) : Nat) : Int)) ∧ w' = w := by
  have hs0 : s.size ≤ 9223372036854775807 := by unfold maxLen at hs; omega
  go_enter Tryz.func102, Tryz.ntmps102
  go_wp2_with fail
  refine Calls.mono (around_is c hc w) ?_
  rintro e w' ⟨rfl, rfl⟩
  go_wp2_with fail
  refine Calls.mono (strings_CutPrefix _ _ _) ?_
  rintro e w' ⟨rfl, rfl⟩
  rw [has_pre, bl_str (ahd_byt c)]
  by_cases hp : ahd c <+: bl s
  · obtain ⟨r, hr⟩ := hp
    rw [trim_pre s (str (ahd c)) r (by rw [bl_str (ahd_byt c)]; exact hr.symm), decide_eq_true (p := ahd c <+: bl s) ⟨r, hr⟩]
    have hbr : Byt r := by have := byt_drop (bl_byt s) 4; rw [← hr, List.drop_left' (ahd_len c)] at this; exact this
    have hrs : (str r).size ≤ 9223372036854775807 := by
      rw [str_size hbr]
      have := sz_bl hr.symm
      rw [List.length_append] at this
      omega
    go_wp2_with fail
    refine Calls.mono (strings_CutSuffix _ _ _ hrs) ?_
    rintro e w' ⟨rfl, rfl⟩
    rw [has_suf, bl_str (atl_byt c), bl_str hbr]
    by_cases hq : atl c <:+ r
    · obtain ⟨t, ht⟩ := hq
      rw [trim_suf (str r) (str (atl c)) t (by rw [bl_str (atl_byt c), bl_str hbr]; exact ht.symm), decide_eq_true (p := atl c <:+ r) ⟨t, ht⟩]
      have hbt : Byt t := by intro x hx; exact hbr x (by rw [← ht]; exact List.mem_append_left _ hx)
      have HR : Hid (numIn c (bl s) = rd t) := by
        show numIn c (bl s) = rd t
        rw [← hr, ← ht]; exact numIn_split c t
      clear hr ht hbr hrs
      go_wp2_with fail
      refine Calls.mono (read_is _ _) ?_
      rintro e w' ⟨rfl, rfl⟩
      rw [bl_str hbt]
      go_wp2_with fail
      go_ret
      exact ⟨by rw [HR.out]; rfl, rfl⟩
    · rw [decide_eq_false hq]
      have HR : Hid (numIn c (bl s) = 0) := by
        show numIn c (bl s) = 0
        refine numIn_none fun t h => hq ⟨t, ?_⟩
        rw [← hr] at h
        exact (List.append_cancel_left h).symm
      go_wp2_with fail
      go_ret
      exact ⟨by rw [HR.out]; rfl, rfl⟩
  · rw [decide_eq_false hp]
    have HR : Hid (numIn c (bl s) = 0) := by
      show numIn c (bl s) = 0
      exact numIn_none fun t h => hp ⟨_, h.symm⟩
    have hrs : (⟨(Lib.trimPrefix s.data.toList (str (ahd c)).data.toList).toArray⟩ : ByteArray).size ≤ 9223372036854775807 := by
      unfold Lib.trimPrefix
      rw [has_pre, bl_str (ahd_byt c), decide_eq_false hp, if_neg (by simp)]
      exact hs0
    go_wp2_with fail
    refine Calls.mono (strings_CutSuffix _ _ _ hrs) ?_
    rintro e w' ⟨rfl, rfl⟩
    go_wp2_with fail
    go_ret
    exact ⟨by rw [HR.out]; rfl, rfl⟩
end Nam
end Go.Proofs.YtnakaomgceoobaaGreat
namespace Go.Proofs.YtnakaomgceoobaaGreat
open Go.RowKit
namespace Nam
open Vt
theorem parse_tmp (s : ByteArray) (w : World) (hs : s.size ≤ maxLen) (h : tmpL <:+ bl s) :
    Calls Tryz.prog 94 #[.string s] w fun e w' => e = .returned (.tuple #[.int .i64 4, .int .u32 0]) ∧ w' = w := by
  have hs0 : s.size ≤ 9223372036854775807 := by unfold maxLen at hs; omega
  go_enter Tryz.func94, Tryz.ntmps94
  go_wp2_with fail
  refine Calls.mono (strings_HasSuffix _ _ _ hs0) ?_
  rintro e w' ⟨rfl, rfl⟩
  rw [show Lib.hasSuffix s.data.toList [46, 116, 109, 112] = true from (has_suf s ⟨#[46, 116, 109, 112]⟩).trans (decide_eq_true (p := bl ⟨#[46, 116, 109, 112]⟩ <:+ bl s) h)]
  go_wp2_with fail
  go_ret2
  exact ⟨rfl, rfl⟩
theorem ix3 (a b c : Value) (w : World) : (Instr.index 170 (.agg #[a, b, c]) (.int .i64 0)).run Tryz.prog w = .ok a w ∧ (Instr.index 170 (.agg #[a, b, c]) (.int .i64 1)).run Tryz.prog w = .ok b w ∧ (Instr.index 170 (.agg #[a, b, c]) (.int .i64 2)).run Tryz.prog w = .ok c w := by
  refine ⟨?_, ?_, ?_⟩ <;> simp [Instr.index, asIntOf, run_underlying Tryz.underlying170, go_sem]
set_option maxRecDepth 100000 in
set_option maxHeartbeats 400000 in
theorem parse_no (s : ByteArray) (w : World) (hs : s.size ≤ maxLen) (h : ¬ tmpL <:+ bl s) :
    Calls Tryz.prog 94 #[.string s] w fun e w' => e = .returned (.tuple #[.int .i64 (((prs (bl s)).1 : Nat) : Int), .int .u32 (((prs (bl s)).2 : Nat) : Int)]) ∧ w' = w := by
  have hs0 : s.size ≤ 9223372036854775807 := by unfold maxLen at hs; omega
  go_enter Tryz.func94, Tryz.ntmps94
  go_wp2_with fail
  refine Calls.mono (strings_HasSuffix _ _ _ hs0) ?_
  rintro e w' ⟨rfl, rfl⟩
  rw [show Lib.hasSuffix s.data.toList [46, 116, 109, 112] = false from (has_suf s ⟨#[46, 116, 109, 112]⟩).trans (decide_eq_false (p := bl ⟨#[46, 116, 109, 112]⟩ <:+ bl s) h)]
  go_wp2_with fail
  go_loop [10] (fun i => ∃ z : Int, i = .int .i64 z ∧ (z = 0 ∨ (z = 1 ∧ numIn 1 (bl s) = 0) ∨ (z = 2 ∧ numIn 1 (bl s) = 0 ∧ numIn 2 (bl s) = 0) ∨ (z = 3 ∧ numIn 1 (bl s) = 0 ∧ numIn 2 (bl s) = 0 ∧ numIn 3 (bl s) = 0))) (fun i => 3 - (intOf i).toNat)
  case atStart => exact ⟨0, rfl, .inl rfl⟩
  case round =>
    have hl1 := numIn_lt 1 (bl s)
    have hl2 := numIn_lt 2 (bl s)
    have hl3 := numIn_lt 3 (bl s)
    have hx0 := fun w => (ix3 (.int .i64 1) (.int .i64 2) (.int .i64 3) w).1
    have hx1 := fun w => (ix3 (.int .i64 1) (.int .i64 2) (.int .i64 3) w).2.1
    have hx2 := fun w => (ix3 (.int .i64 1) (.int .i64 2) (.int .i64 3) w).2.2
    obtain ⟨z, rfl, rfl | ⟨rfl, q1⟩ | ⟨rfl, q1, q2⟩ | ⟨rfl, q1, q2, q3⟩⟩ := hrel
    · go_wp2_with fail
      refine Calls.mono (numberIn_is s 1 (.inl rfl) _ hs) ?_
      rintro e w' ⟨rfl, rfl⟩
      rcases Nat.eq_zero_or_pos (numIn 1 (bl s)) with q1 | q1
      · have HQ1 := hd q1
        rw [q1]
        go_wp2_with fail
        go_round
        case rel => exact ⟨1, rfl, .inr (.inl ⟨rfl, HQ1.out⟩)⟩
        case measure => simp [intOf]
      · have HR : Hid (prs (bl s) = (1, numIn 1 (bl s))) := by
          show prs (bl s) = _
          unfold prs; rw [if_neg h, if_pos q1]
        generalize numIn 1 (bl s) = n at *
        go_wp2_with fail
        go_ret2
        exact ⟨by rw [HR.out]; rfl, rfl⟩
    · have HQ1 := hd q1
      clear q1
      go_wp2_with fail
      refine Calls.mono (numberIn_is s 2 (.inr (.inl rfl)) _ hs) ?_
      rintro e w' ⟨rfl, rfl⟩
      rcases Nat.eq_zero_or_pos (numIn 2 (bl s)) with q1 | q1
      · have HQ2 := hd q1
        rw [q1]
        go_wp2_with fail
        go_round
        case rel => exact ⟨2, rfl, .inr (.inr (.inl ⟨rfl, HQ1.out, HQ2.out⟩))⟩
        case measure => simp [intOf]
      · have HR : Hid (prs (bl s) = (2, numIn 2 (bl s))) := by
          show prs (bl s) = _
          unfold prs; rw [if_neg h, if_neg (by rw [HQ1.out]; omega), if_pos q1]
        generalize numIn 2 (bl s) = n at *
        go_wp2_with fail
        go_ret2
        exact ⟨by rw [HR.out]; rfl, rfl⟩
    · have HQ1 := hd q1
      have HQ2 := hd q2
      clear q1 q2
      go_wp2_with fail
      refine Calls.mono (numberIn_is s 3 (.inr (.inr rfl)) _ hs) ?_
      rintro e w' ⟨rfl, rfl⟩
      rcases Nat.eq_zero_or_pos (numIn 3 (bl s)) with q1 | q1
      · have HQ3 := hd q1
        rw [q1]
        go_wp2_with fail
        go_round
        case rel => exact ⟨3, rfl, .inr (.inr (.inr ⟨rfl, HQ1.out, HQ2.out, HQ3.out⟩))⟩
        case measure => simp [intOf]
      · have HR : Hid (prs (bl s) = (3, numIn 3 (bl s))) := by
          show prs (bl s) = _
          unfold prs; rw [if_neg h, if_neg (by rw [HQ1.out]; omega), if_neg (by rw [HQ2.out]; omega), if_pos q1]
        generalize numIn 3 (bl s) = n at *
        go_wp2_with fail
        go_ret2
        exact ⟨by rw [HR.out]; rfl, rfl⟩
    · have HR : Hid (prs (bl s) = (0, 0)) := by
        show prs (bl s) = _
        unfold prs; rw [if_neg h, if_neg (by omega), if_neg (by omega), if_neg (by omega)]
      clear q1 q2 q3 hl1 hl2 hl3
      go_wp2_with fail
      go_ret2
      exact ⟨by rw [HR.out]; rfl, rfl⟩
theorem parse_is (s : ByteArray) (w : World) (hs : s.size ≤ maxLen) :
    Calls Tryz.prog 94 #[.string s] w fun e w' => e = .returned (.tuple #[.int .i64 (((prs (bl s)).1 : Nat) : Int), .int .u32 (((prs (bl s)).2 : Nat) : Int)]) ∧ w' = w := by
  by_cases h : tmpL <:+ bl s
  · have e : prs (bl s) = (4, 0) := by unfold prs; rw [if_pos h]
    rw [e]; exact parse_tmp s w hs h
  · exact parse_no s w hs h
end Nam
end Go.Proofs.YtnakaomgceoobaaGreat
namespace Go.Proofs.YtnakaomgceoobaaGreat
open Go.RowKit
namespace Nam
open Vt
theorem str_eq {la lb : List Nat} (ha : Byt la) (hb : Byt lb) : ((str la).toList == (str lb).toList) = decide (la = lb) := by
  by_cases h : la = lb
  · subst h; simp
  · rw [decide_eq_false h, ByteArray.toList_eq, ByteArray.toList_eq, beq_eq_false_iff_ne]
    intro e
    exact h ((str_inj ha hb).1 (Go.WideShapes.bytes_inj e))
theorem conv_is (w : World) (v : Value) (l : List Nat) (h : IsB w v l) : (convert 31 9 v).run Tryz.prog w = .ok (.string (str l)) w := by
  obtain ⟨a, c, rfl⟩ := h.shape
  rw [run_convert_bytes_string w _ _ 5 _ _ _ Tryz.underlying31 Tryz.underlying5 Tryz.underlying9]
  cases a with
  | none =>
    obtain ⟨_, _, ⟨rfl, a', c', e⟩ | ⟨b, off, c', e, _⟩⟩ := h
    · rfl
    · cases e
  | some ad =>
    refine run_bytesToString w ad _ _ (l.map fun x => ((x : Nat) : Int)) ?_
    obtain ⟨_, _, ⟨rfl, a', c', e⟩ | ⟨b, off, c', e, _, _, _, hr⟩⟩ := h
    · rfl
    · injection e with e1 e2 e3
      injection e1 with e1
      subst e1
      have := run_loadCells_list (P := Tryz.prog) w ⟨b, off, none⟩ (bs l) (news_of_row hr)
      rw [bs_len] at this
      rw [this]
      unfold bs
      rw [List.map_map]; rfl
theorem buf_zero (w : World) (T : TypeId) : Buf (w.alloc (.cells #[.int .u8 0, .int .u8 0, .int .u8 0, .int .u8 0, .int .u8 0, .int .u8 0, .int .u8 0, .int .u8 0] T)) w.heap.size 8 (List.replicate 8 0) := by
  have hb : Blk (w.alloc (.cells [Value.int .u8 0, .int .u8 0, .int .u8 0, .int .u8 0, .int .u8 0, .int .u8 0, .int .u8 0, .int .u8 0].toArray T)) w.heap.size T [.int .u8 0, .int .u8 0, .int .u8 0, .int .u8 0, .int .u8 0, .int .u8 0, .int .u8 0, .int .u8 0] := Blk.new w T _
  refine ⟨by simp, by unfold maxLen; omega, hb.lt, by intro x hx; simp at hx; omega, fun k hk => ?_, fun k _ => hb.frozen k⟩
  rw [List.length_replicate] at hk
  rw [Nat.zero_add]
  refine hb.cell k _ ?_
  rcases k with _ | _ | _ | _ | _ | _ | _ | _ | k
  all_goals first | rfl | omega
theorem bl_app (s t : ByteArray) : bl (s ++ t) = bl s ++ bl t := by
  rw [bl_def, bl_def, bl_def, ← List.map_append]
  congr 1
theorem str_app (a b : List Nat) (ha : Byt a) (hb : Byt b) : str a ++ str b = str (a ++ b) := by
  refine bl_inj ?_
  rw [bl_app, bl_str ha, bl_str hb, bl_str (byt_app ha hb)]
theorem atl_len (c : Nat) : (atl c).length ≤ 5 := by
  unfold atl
  split
  · decide
  · split <;> decide
theorem digits_at (d : Nat) (h : d < 16) : ((⟨#[48, 49, 50, 51, 52, 53, 54, 55, 56, 57, 97, 98, 99, 100, 101, 102]⟩ : ByteArray)[d]'h).toNat = hx d := by
  have : ∀ d : Fin 16, ((⟨#[48, 49, 50, 51, 52, 53, 54, 55, 56, 57, 97, 98, 99, 100, 101, 102]⟩ : ByteArray)[d.val]'d.isLt).toNat = hx d.val := by decide
  exact this ⟨d, h⟩
set_option maxRecDepth 100000 in
set_option maxHeartbeats 400000 in
theorem written_is (n : Nat) (hn : n < 4294967296) (w : World) :
    Calls Tryz.prog 69 #[.int .u32 (n : Int)] w fun e w' => e = .returned (.string (str (hex 8 n))) ∧ Below w.heap.size w w' := by
  go_enter Tryz.func69, Tryz.ntmps69
  go_wp2_with fail
  go_loopw [0, 4] (fun y i wr => ∃ j : Nat, j ≤ 8 ∧ i = .int .i64 (7 - (j : Int)) ∧ y = .int .u32 ((n / 16 ^ j : Nat) : Int) ∧ Buf wr w.heap.size 8 (List.replicate (8 - j) 0 ++ hex j n) ∧ Below w.heap.size w wr) (fun _ i _ => (intOf i + 1).toNat)
  case atStart => exact ⟨0, by omega, rfl, by rw [Nat.pow_zero, Nat.div_one], by rw [hex, List.append_nil]; exact buf_zero w _, (Below.refl _ _).alloc (Nat.le_refl _) _⟩
  case round =>
    obtain ⟨j, hj, rfl, rfl, hO, hB⟩ := hrel
    have HO := hd hO
    have HB := hd hB
    clear hO hB
    by_cases hlt : j < 8
    · obtain ⟨p, hp⟩ : ∃ p : Nat, p = 7 - j := ⟨_, rfl⟩
      have hpi : 7 - (j : Int) = (p : Int) := by omega
      have hpc : p < 8 := by omega
      have hll : 8 = (List.replicate (8 - j) 0 ++ hex j n).length := by rw [List.length_append, List.length_replicate, hex_len]; omega
      have hcell := HO.out.cell (j := p) (by omega)
      have hfro := HO.out.2.2.2.2.2 p (by omega)
      have hd16 : n / 16 ^ j % 16 < 16 := by omega
      have HO2 := hd (HO.out.set (j := p) (y := hx (n / 16 ^ j % 16)) (by omega) (hx_lt hd16))
      have HS := hd (hex_step 8 j n hlt)
      rw [show 8 - 1 - j = p by omega] at HS
      rw [HS.out] at HO2
      have hqe : n / 16 ^ (j + 1) = n / 16 ^ j / 16 := by rw [Nat.pow_succ, Nat.div_div_eq_div_mul]
      have HQE := hd hqe
      generalize hq : n / 16 ^ j = q at *
      have hq2 : q < 4294967296 := by have := Nat.div_le_self n (16 ^ j); omega
      rw [hpi]
      have HP := hd hp
      have HLT := hd hlt
      have HPI := hd hpi
      have HDG := hd (digits_at (q % 16) hd16)
      clear hlt hp hpi hq hj hqe hll
      go_wp2_with fail
      rw [HDG.out]
      refine ⟨⟨j + 1, HLT.out, ?_, by rw [HQE.out]; rfl, HO2.out, HB.out.setCell (Nat.le_refl _) _⟩, by simp [intOf]⟩
      have := HPI.out
      congr 1
      omega
    · have hpi : 7 - (j : Int) = -1 := by omega
      have e8 : j = 8 := by omega
      rw [hpi]
      have HO3 : Hid (Buf wr w.heap.size 8 (hex 8 n)) := by
        show Buf wr w.heap.size 8 (hex 8 n)
        have := HO.out
        rw [e8] at this
        exact this
      have hcv := conv_is wr (.slice (some ⟨w.heap.size, 0, none⟩) 8 8) (hex 8 n) (HO3.out.isB (hex_len 8 n).symm)
      clear hj hlt hpi e8
      go_wp2_with fail
      go_ret
      exact ⟨rfl, HB.out⟩
set_option maxRecDepth 100000 in
set_option maxHeartbeats 400000 in
theorem make_ok (c n : Nat) (hc : Cl c) (hn : Nu n) (w : World) :
    Calls Tryz.prog 45 #[.int .i64 (c : Int), .int .u32 (n : Int)] w fun e w' => e = .returned (.tuple #[.string (str (mk c n)), .int .i64 0]) ∧ Below w.heap.size w w' := by
  obtain ⟨hn1, hn2⟩ := hn
  go_enter Tryz.func45, Tryz.ntmps45
  go_wp2_with fail
  refine Calls.mono (around_is c hc w) ?_
  rintro e w' ⟨rfl, rfl⟩
  go_wp2_with fail
  refine Calls.mono (written_is n hn2 _) ?_
  rintro e w' ⟨rfl, hB⟩
  have HB := hd hB
  clear hB
  have hz1 : (str (ahd c)).size = 4 := by rw [str_size (ahd_byt c), ahd_len]
  have hz2 : (str (hex 8 n)).size = 8 := by rw [str_size (hex_byt 8 n), hex_len]
  have hz3 : (str (atl c)).size ≤ 5 := by rw [str_size (atl_byt c)]; exact atl_len c
  have HA : Hid (str (ahd c) ++ str (hex 8 n) ++ str (atl c) = str (mk c n)) := by
    show str (ahd c) ++ str (hex 8 n) ++ str (atl c) = str (mk c n)
    rw [str_app _ _ (ahd_byt c) (hex_byt 8 n), str_app _ _ (byt_app (ahd_byt c) (hex_byt 8 n)) (atl_byt c), List.append_assoc]
    rfl
  go_wp2_with fail
  go_ret2
  exact ⟨by rw [← HA.out]; rfl, HB.out⟩
theorem make_no (c : Int) (n : Nat) (h : (c ≠ 1 ∧ c ≠ 2 ∧ c ≠ 3) ∨ n = 0) (w : World) :
    Calls Tryz.prog 45 #[.int .i64 c, .int .u32 (n : Int)] w fun e w' => e = .returned (.tuple #[.string (str []), .int .i64 60]) ∧ w' = w := by
  by_cases hc : c ≠ 1 ∧ c ≠ 2 ∧ c ≠ 3
  · go_enter Tryz.func45, Tryz.ntmps45
    go_wp2_with fail
    refine Calls.mono (around_no c hc.1 hc.2.1 hc.2.2 w) ?_
    rintro e w' ⟨rfl, rfl⟩
    go_wp2_with fail
    go_ret2
    exact ⟨rfl, rfl⟩
  · obtain rfl : n = 0 := by omega
    obtain ⟨d, hd, rfl⟩ : ∃ d, Cl d ∧ c = (d : Int) := by
      by_cases h1 : c = 1
      · exact ⟨1, .inl rfl, h1⟩
      · by_cases h2 : c = 2
        · exact ⟨2, .inr (.inl rfl), h2⟩
        · exact ⟨3, .inr (.inr rfl), by omega⟩
    go_enter Tryz.func45, Tryz.ntmps45
    go_wp2_with fail
    refine Calls.mono (around_is d hd w) ?_
    rintro e w' ⟨rfl, rfl⟩
    go_wp2_with fail
    go_ret2
    exact ⟨rfl, rfl⟩
/-- what Pair tells -/
def pa (l : List Nat) : List Nat := if (prs l).1 = 1 then mk 2 (prs l).2 else if (prs l).1 = 2 then mk 1 (prs l).2 else []
def pb (l : List Nat) : Bool := decide ((prs l).1 = 1 ∨ (prs l).1 = 2)
theorem pa_seg {l : List Nat} {n : Nat} (h : prs l = (1, n)) : pa l = mk 2 n ∧ pb l = true := by unfold pa pb; rw [h]; simp
theorem pa_hint {l : List Nat} {n : Nat} (h : prs l = (2, n)) : pa l = mk 1 n ∧ pb l = true := by unfold pa pb; rw [h]; simp
theorem pa_no {l : List Nat} (h1 : (prs l).1 ≠ 1) (h2 : (prs l).1 ≠ 2) : pa l = [] ∧ pb l = false := by
  unfold pa pb; rw [if_neg h1, if_neg h2]; exact ⟨rfl, decide_eq_false (by omega)⟩
end Nam
end Go.Proofs.YtnakaomgceoobaaGreat
namespace Go.Proofs.YtnakaomgceoobaaGreat
open Go.RowKit
namespace Nam
open Vt
theorem ex_seg : (⟨#[115, 101, 103, 45, 48, 48, 48, 48, 48, 48, 50, 97, 46, 108, 111, 103]⟩ : ByteArray) = str (mk 1 42) := rfl
theorem ex_bad : str (mk 3 4294967295) = (⟨#[98, 97, 100, 45, 102, 102, 102, 102, 102, 102, 102, 102, 46, 98, 105, 110]⟩ : ByteArray) := rfl
theorem mk_size {c n : Nat} : (str (mk c n)).size ≤ 17 := by
  rw [str_size (mk_byt c n), mk_len]
  have := atl_len c
  omega
theorem hex_head (j n : Nat) : hex (j + 1) n = hx (n / 16 ^ j % 16) :: hex j n := rfl
theorem cut_digit (d : Nat) (h : d < 16) : (⟨#[48, 49, 50, 51, 52, 53, 54, 55, 56, 57, 97, 98, 99, 100, 101, 102]⟩ : ByteArray).extract d (d + 1) = str [hx d] := by
  have : ∀ d : Fin 16, ((⟨#[48, 49, 50, 51, 52, 53, 54, 55, 56, 57, 97, 98, 99, 100, 101, 102]⟩ : ByteArray).extract d.val (d.val + 1)) = str [hx d.val] := by decide
  exact this ⟨d, h⟩
/-- the class that a raw number speaks of -/
def so (c : Int) : Nat := 1 + (if c < 0 then (-(c + 1)).toNat else c.toNat) % 3
theorem so_cl (c : Int) : Cl (so c) := by unfold so Cl; omega
end Nam
end Go.Proofs.YtnakaomgceoobaaGreat
namespace Go.Proofs.YtnakaomgceoobaaGreat
open Go.RowKit
namespace Nam
open Vt
/-- a name without .tmp at its end -/
def trm (l : List Nat) : List Nat := if tmpL <:+ l then l.take (l.length - 4) else l
theorem trm_app (l : List Nat) : trm (l ++ tmpL) = l := by
  unfold trm
  rw [if_pos ⟨l, rfl⟩, List.take_left']
  rw [List.length_append]; simp [tmpL]
theorem trm_cases (l : List Nat) : trm l = l ∨ l = trm l ++ tmpL := by
  by_cases h : tmpL <:+ l
  · right
    obtain ⟨t, rfl⟩ := h
    rw [trm_app]
  · left; unfold trm; rw [if_neg h]
/-- the class whose numbers a class has -/
def ow (c : Nat) : Nat := if c = 2 then 1 else c
/-- the number that a new file of the class may not have beside this name (0: any) -/
def tk (c : Nat) (l : List Nat) : Nat := if ow (prs (trm l)).1 = ow c then (prs (trm l)).2 else 0
theorem trm_mk {c n : Nat} (hc : Cl c) : trm (mk c n) = mk c n := by
  unfold trm; rw [if_neg]
  rintro ⟨t, h⟩; exact mk_tmp hc t h.symm
theorem tk_mk {c d n : Nat} (hd : Cl d) (hn : Nu n) (h : ow d = ow c) : tk c (mk d n) = n ∧ tk c (mk d n ++ tmpL) = n := by
  unfold tk
  rw [trm_mk hd, trm_app, prs_mk hd hn, if_pos h]
  exact ⟨rfl, rfl⟩
theorem tk_of {c m : Nat} {l : List Nat} (hm : 0 < m) (h : tk c l = m) : ∃ d, Cl d ∧ ow d = ow c ∧ Nu m ∧ (l = mk d m ∨ l = mk d m ++ tmpL) := by
  unfold tk at h
  by_cases h1 : ow (prs (trm l)).1 = ow c
  · rw [if_pos h1] at h
    rcases prs_cases (trm l) with ⟨h2, _⟩ | ⟨h2, _⟩ | ⟨d, n, hd, hn, h2, h3, _⟩
    · rw [h2] at h; simp at h; omega
    · rw [h2] at h; simp at h; omega
    · rw [h2] at h h1
      simp only at h h1
      subst h
      refine ⟨d, hd, h1, hn, ?_⟩
      rcases trm_cases l with h4 | h4
      · left; rw [← h3, h4]
      · right; rw [← h3]; exact h4
  · rw [if_neg h1] at h; omega
theorem tk_lt (c : Nat) (l : List Nat) : tk c l < 4294967296 := by
  unfold tk; split
  · exact prs_lt _
  · omega
/-- n is the least number that none takes -/
def FrOk (c : Nat) (ls : List (List Nat)) (n : Nat) : Prop := 1 ≤ n ∧ n ≤ ls.length + 1 ∧ (∀ l ∈ ls, tk c l ≠ n) ∧ ∀ m, 1 ≤ m → m < n → ∃ l ∈ ls, tk c l = m
theorem FrOk.one {c n m : Nat} {ls : List (List Nat)} (h : FrOk c ls n) (g : FrOk c ls m) : n = m := by
  obtain ⟨h1, _, h3, h4⟩ := h
  obtain ⟨g1, _, g3, g4⟩ := g
  rcases Nat.lt_trichotomy n m with q | q | q
  · obtain ⟨l, hl, e⟩ := g4 n h1 q
    exact absurd e (h3 l hl)
  · exact q
  · obtain ⟨l, hl, e⟩ := h4 m g1 q
    exact absurd e (g3 l hl)
/-- with its own name beside, the next one is greater -/
theorem FrOk.next {c n m : Nat} {ls : List (List Nat)} {x : List Nat} (h : FrOk c ls n) (hx : tk c x = n) (g : FrOk c (ls ++ [x]) m) : n < m := by
  obtain ⟨h1, _, h3, h4⟩ := h
  obtain ⟨g1, _, g3, g4⟩ := g
  rcases Nat.lt_trichotomy n m with q | q | q
  · exact q
  · exact absurd (hx.trans q) (g3 x (by simp))
  · obtain ⟨l, hl, e⟩ := h4 m g1 q
    exact absurd e (g3 l (List.mem_append_left _ hl))
/-- so many numbers cannot all be taken -/
theorem pigeon : ∀ (N : Nat) (l : List Nat), (∀ i, i < N → i + 1 ∈ l) → N ≤ l.length
  | 0, _, _ => Nat.zero_le _
  | N + 1, l, h => by
    have h1 := h N (by omega)
    have h2 := pigeon N (l.erase (N + 1)) fun i hi => (List.mem_erase_of_ne (by omega)).2 (h i (by omega))
    rw [List.length_erase_of_mem h1] at h2
    have := List.length_pos_of_mem h1
    omega
/-- what is marked as taken -/
def mrk (c k : Nat) (ls : List (List Nat)) : List Bool := (List.range k).map fun i => decide (∃ l ∈ ls, tk c l = i + 1)
theorem mrk_len (c k : Nat) (ls : List (List Nat)) : (mrk c k ls).length = k := by unfold mrk; simp
theorem mrk_at (c k : Nat) (ls : List (List Nat)) (i : Nat) (h : i < k) : (mrk c k ls).getD i false = decide (∃ l ∈ ls, tk c l = i + 1) := by
  unfold mrk
  rw [List.getD_eq_getElem?_getD, List.getElem?_map, List.getElem?_range h]; rfl
theorem mrk_nil (c k : Nat) : mrk c k [] = List.replicate k false := by
  unfold mrk
  rw [List.eq_replicate_iff]
  refine ⟨by simp, fun b hb => ?_⟩
  obtain ⟨i, _, rfl⟩ := List.mem_map.1 hb
  simp
theorem ext_bool {a b : List Bool} (hl : a.length = b.length) (h : ∀ k, k < a.length → a.getD k false = b.getD k false) : a = b := by
  refine List.ext_getElem hl fun i h1 h2 => ?_
  have := h i h1
  rwa [List.getD_eq_getElem?_getD, List.getD_eq_getElem?_getD, List.getElem?_eq_getElem h1, List.getElem?_eq_getElem h2] at this
theorem getD_set {a : List Bool} {i k : Nat} {b : Bool} (hi : i < a.length) : (a.set i b).getD k false = if k = i then b else a.getD k false := by
  rw [List.getD_eq_getElem?_getD, List.getD_eq_getElem?_getD]
  by_cases h : k = i
  · subst h; rw [if_pos rfl, List.getElem?_set_self hi]; rfl
  · rw [if_neg h, List.getElem?_set_ne (by omega)]
theorem mrk_in (c k : Nat) (ls : List (List Nat)) (x : List Nat) (h1 : 0 < tk c x) (h2 : tk c x ≤ k) : (mrk c k ls).set (tk c x - 1) true = mrk c k (ls ++ [x]) := by
  refine ext_bool (by rw [List.length_set, mrk_len, mrk_len]) fun i hi => ?_
  rw [List.length_set, mrk_len] at hi
  rw [getD_set (by rw [mrk_len]; omega), mrk_at c k _ i hi, mrk_at c k _ i hi]
  by_cases h : i = tk c x - 1
  · rw [if_pos h]
    exact (decide_eq_true ⟨x, by simp, by omega⟩).symm
  · rw [if_neg h]
    refine decide_eq_decide.2 ⟨?_, ?_⟩
    · rintro ⟨l, hl, e⟩; exact ⟨l, List.mem_append_left _ hl, e⟩
    · rintro ⟨l, hl, e⟩
      rcases List.mem_append.1 hl with hl | hl
      · exact ⟨l, hl, e⟩
      · simp at hl; subst hl; omega
theorem mrk_out (c k : Nat) (ls : List (List Nat)) (x : List Nat) (h : tk c x = 0 ∨ k < tk c x) : mrk c k (ls ++ [x]) = mrk c k ls := by
  refine ext_bool (by rw [mrk_len, mrk_len]) fun i hi => ?_
  rw [mrk_len] at hi
  rw [mrk_at c k _ i hi, mrk_at c k _ i hi]
  refine decide_eq_decide.2 ⟨?_, ?_⟩
  · rintro ⟨l, hl, e⟩
    rcases List.mem_append.1 hl with hl | hl
    · exact ⟨l, hl, e⟩
    · simp at hl; subst hl; omega
  · rintro ⟨l, hl, e⟩; exact ⟨l, List.mem_append_left _ hl, e⟩
/-- where the first 'false' stands -/
theorem mrk_first (c : Nat) (ls : List (List Nat)) : ∃ j, j < ls.length + 1 ∧ (mrk c (ls.length + 1) ls).getD j false = false ∧ ∀ i, i < j → (mrk c (ls.length + 1) ls).getD i false = true := by
  rcases Classical.em (∃ j, j < ls.length + 1 ∧ (mrk c (ls.length + 1) ls).getD j false = false) with h | h
  · have key : ∀ j, j < ls.length + 1 → (mrk c (ls.length + 1) ls).getD j false = false → ∃ j, j < ls.length + 1 ∧ (mrk c (ls.length + 1) ls).getD j false = false ∧ ∀ i, i < j → (mrk c (ls.length + 1) ls).getD i false = true := by
      intro j
      induction j using Nat.strongRecOn with
      | _ j ih =>
        intro hj hf
        rcases Classical.em (∃ i, i < j ∧ (mrk c (ls.length + 1) ls).getD i false = false) with g | g
        · obtain ⟨i, hi, g⟩ := g
          exact ih i hi (by omega) g
        · refine ⟨j, hj, hf, fun i hi => ?_⟩
          cases e : (mrk c (ls.length + 1) ls).getD i false with
          | true => rfl
          | false => exact absurd ⟨i, hi, e⟩ g
    obtain ⟨j, hj, hf⟩ := h
    exact key j hj hf
  · have := pigeon (ls.length + 1) (ls.map (tk c)) fun i hi => by
      have hb : (mrk c (ls.length + 1) ls).getD i false = true := by
        cases e : (mrk c (ls.length + 1) ls).getD i false with
        | true => rfl
        | false => exact absurd ⟨i, hi, e⟩ h
      rw [mrk_at c _ _ i hi, decide_eq_true_iff] at hb
      obtain ⟨l, hl, e⟩ := hb
      exact List.mem_map.2 ⟨l, hl, e⟩
    rw [List.length_map] at this
    omega
theorem frok_of {c : Nat} {ls : List (List Nat)} {j : Nat} (hj : j < ls.length + 1) (h1 : (mrk c (ls.length + 1) ls).getD j false = false) (h2 : ∀ i, i < j → (mrk c (ls.length + 1) ls).getD i false = true) : FrOk c ls (j + 1) := by
  refine ⟨by omega, by omega, fun l hl e => ?_, fun m hm1 hm2 => ?_⟩
  · rw [mrk_at c _ _ j hj, decide_eq_false_iff_not] at h1
    exact h1 ⟨l, hl, e⟩
  · have := h2 (m - 1) (by omega)
    rw [mrk_at c _ _ _ (by omega), decide_eq_true_iff, show m - 1 + 1 = m by omega] at this
    exact this

/-- a slice of strings that came in -/
def RowS (w : World) (b off : Nat) (l : List ByteArray) : Prop := ∀ i, i < l.length → w.cell? ⟨b, off + i, none⟩ = some (.string (l.getD i ByteArray.empty))
def IsS (w : World) (v : Value) (l : List ByteArray) : Prop :=
  (∀ s ∈ l, s.size ≤ maxLen) ∧ l.length ≤ maxLen ∧ ((l = [] ∧ ∃ a c, v = .slice a 0 c) ∨ ∃ b off c, v = .slice (some ⟨b, off, none⟩) l.length c ∧ l.length ≤ c ∧ c ≤ maxLen ∧ b < w.heap.size ∧ RowS w b off l)
theorem IsS.shape {w : World} {v : Value} {l : List ByteArray} (h : IsS w v l) : ∃ a c, v = .slice a l.length c := by
  obtain ⟨_, _, ⟨rfl, a, c, rfl⟩ | ⟨b, off, c, rfl, _⟩⟩ := h
  · exact ⟨a, c, rfl⟩
  · exact ⟨_, c, rfl⟩
theorem IsS.below {n : Nat} {w w' : World} {v : Value} {l : List ByteArray} (h : IsS w v l) (hb : Below n w w') (hn : n = w.heap.size) : IsS w' v l := by
  subst hn
  obtain ⟨h1, h2, ⟨rfl, a, c, rfl⟩ | ⟨b, off, c, rfl, h3, h4, h5, h6⟩⟩ := h
  · exact ⟨h1, h2, .inl ⟨rfl, a, c, rfl⟩⟩
  · refine ⟨h1, h2, .inr ⟨b, off, c, rfl, h3, h4, Nat.lt_of_lt_of_le h5 hb.size, fun k hk => ?_⟩⟩
    rw [hb.cell h5]; exact h6 k hk
theorem isS_nil (w : World) (a : Option Addr) (c : Nat) : IsS w (.slice a 0 c) [] := ⟨by intro x hx; simp at hx, by simp, .inl ⟨rfl, _, _, rfl⟩⟩
theorem IsS.at {w : World} {a : Option Addr} {n c k : Nat} {l : List ByteArray} (h : IsS w (.slice a n c) l) (hk : k < l.length) : ∃ b off, a = some ⟨b, off, none⟩ ∧ b < w.heap.size ∧ n = l.length ∧ w.cell? ⟨b, off + k, none⟩ = some (.string (l.getD k ByteArray.empty)) ∧ (l.getD k ByteArray.empty).size ≤ maxLen := by
  obtain ⟨h1, h2, ⟨rfl, a', c', e⟩ | ⟨b', off', c', e, h3, h4, h5, h6⟩⟩ := h
  · simp at hk
  · injection e with e1 e2 e3
    refine ⟨b', off', e1, h5, e2, h6 k hk, h1 _ ?_⟩
    rw [List.getD_eq_getElem?_getD, List.getElem?_eq_getElem hk]
    exact List.getElem_mem hk
theorem take_succ_S {l : List ByteArray} {k : Nat} (h : k < l.length) : l.take (k + 1) = l.take k ++ [l.getD k ByteArray.empty] := by
  rw [List.take_succ_eq_append_getElem h, List.getD_eq_getElem?_getD, List.getElem?_eq_getElem h]; rfl
theorem owner_is (c : Nat) (hc : c ≤ 4) (w : World) : Calls Tryz.prog 96 #[.int .i64 (c : Int)] w fun e w' => e = .returned (.int .i64 ((ow c : Nat) : Int)) ∧ w' = w := by
  have : c = 0 ∨ c = 1 ∨ c = 2 ∨ c = 3 ∨ c = 4 := by omega
  rcases this with rfl | rfl | rfl | rfl | rfl
  all_goals
    go_enter Tryz.func96, Tryz.ntmps96
    go_wp2
    go_ret
    exact ⟨rfl, rfl⟩
theorem ow_le {c : Nat} (h : c ≤ 4) : ow c ≤ 4 := by unfold ow; split <;> omega
theorem trim_is (s : ByteArray) : (⟨(Lib.trimSuffix s.data.toList (⟨#[46, 116, 109, 112]⟩ : ByteArray).data.toList).toArray⟩ : ByteArray) = str (trm (bl s)) := by
  by_cases h : tmpL <:+ bl s
  · obtain ⟨t, ht⟩ := h
    rw [← ht, trm_app]
    exact trim_suf s ⟨#[46, 116, 109, 112]⟩ t ht.symm
  · have h1 : Lib.hasSuffix s.data.toList (⟨#[46, 116, 109, 112]⟩ : ByteArray).data.toList = false := by
      rw [has_suf]; exact decide_eq_false h
    unfold Lib.trimSuffix trm
    rw [h1, if_neg h, if_neg (by simp), mk_str, ← bl_def]
theorem trm_byt {l : List Nat} (h : Byt l) : Byt (trm l) := by
  unfold trm; split
  · exact byt_take h _
  · exact h
theorem trm_len (l : List Nat) : (trm l).length ≤ l.length := by
  unfold trm; split
  · rw [List.length_take]; omega
  · omega
set_option maxRecDepth 100000 in
set_option maxHeartbeats 400000 in
theorem takes_is (s : ByteArray) (c : Nat) (hc : Cl c) (w : World) (hs : s.size ≤ maxLen) :
    Calls Tryz.prog 73 #[.string s, .int .i64 (c : Int)] w fun e w' => e = .returned (.int .u32 ((tk c (bl s) : Nat) : Int)) ∧ w' = w := by
  have hs0 : s.size ≤ 9223372036854775807 := by unfold maxLen at hs; omega
  have hbt := trm_byt (bl_byt s)
  have hsz : (str (trm (bl s))).size ≤ maxLen := by
    rw [str_size hbt]
    have := trm_len (bl s)
    rw [bl_len] at this
    omega
  have HTI := hd (trim_is s)
  go_enter Tryz.func73, Tryz.ntmps73
  go_wp2_with fail
  refine Calls.mono (strings_TrimSuffix _ _ _ hs0) ?_
  rintro e w' ⟨rfl, rfl⟩
  rw [HTI.out]
  go_wp2_with fail
  refine Calls.mono (parse_is _ _ hsz) ?_
  rintro e w' ⟨rfl, rfl⟩
  rw [bl_str hbt]
  have hle := prs_le (trm (bl s))
  have hlt := prs_lt (trm (bl s))
  have HT : Hid (tk c (bl s) = if ow (prs (trm (bl s))).1 = ow c then (prs (trm (bl s))).2 else 0) := rfl
  clear hsz hbt HTI
  generalize prs (trm (bl s)) = x at *
  obtain ⟨x1, x2⟩ := x
  simp only at hle hlt HT
  have HC : Hid (c ≤ 4) := by unfold Cl at hc; show c ≤ 4; omega
  have hl1 := ow_le hle
  have hl2 := ow_le HC.out
  clear hc
  go_wp2_with fail
  refine Calls.mono (owner_is x1 hle _) ?_
  rintro e w' ⟨rfl, rfl⟩
  go_wp2_with fail
  refine Calls.mono (owner_is c HC.out _) ?_
  rintro e w' ⟨rfl, rfl⟩
  by_cases he : ow x1 = ow c
  · rw [if_pos he] at HT
    rw [he]
    clear he
    go_wp2_with fail
    go_ret
    exact ⟨by rw [HT.out]; rfl, rfl⟩
  · rw [if_neg he] at HT
    have hne : (((ow x1 : Nat) : Int) != ((ow c : Nat) : Int)) = true := by simp; omega
    clear he
    go_wp2_with fail
    go_ret
    exact ⟨by rw [HT.out]; rfl, rfl⟩
/-- a row of bools that the call has made -/
def BufB (w : World) (g : Nat) (l : List Bool) : Prop := g < w.heap.size ∧ ∀ j, j < l.length → w.cell? ⟨g, j, none⟩ = some (.bool (l.getD j false)) ∧ w.frozen? ⟨g, j, none⟩ = false
theorem BufB.set {w : World} {g : Nat} {l : List Bool} (h : BufB w g l) {j : Nat} (hj : j < l.length) (b : Bool) : BufB (w.setCell ⟨g, j, none⟩ (.bool b)) g (l.set j b) := by
  obtain ⟨h1, h2⟩ := h
  have hcj := (h2 j hj).1
  refine ⟨?_, fun k hk => ?_⟩
  · have : (w.setCell ⟨g, j, none⟩ (.bool b)).heap.size = w.heap.size := by simp [World.setCell]
    omega
  · rw [List.length_set] at hk
    rw [getD_set hj, World.frozen?_setCell]
    refine ⟨?_, (h2 k hk).2⟩
    by_cases e : k = j
    · subst e
      rw [if_pos rfl, World.cell?_setCell_same _ _ _ hcj]
    · rw [if_neg e, World.cell?_setCell_other _ _ _ _ (by intro he; injection he; omega)]
      exact (h2 k hk).1
theorem index_is (w : World) (g n : Nat) (l : List Bool) (hB : BufB w g l) (hn : n = l.length) (hm : n ≤ maxLen) (j : Nat) (hj : j < l.length) (h1 : l.getD j false = false) (h2 : ∀ i, i < j → l.getD i false = true) :
    Calls Tryz.prog 74 #[.slice (some ⟨g, 0, none⟩) n n, .bool false] w fun e w' => e = .returned (.int .i64 (j : Int)) ∧ w' = w := by
  have HB := hd hB
  have H2 := hd h2
  have H1 := hd h1
  have HN := hd hn
  unfold maxLen at hm
  clear hB h2 hn h1
  go_enter Tryz.func74, Tryz.ntmps74
  go_wp2_with fail
  go_loop [8] (fun i => ∃ k : Nat, k ≤ j ∧ i = .int .i64 (k : Int)) (fun i => n - (intOf i).toNat)
  case atStart => exact ⟨0, by omega, rfl⟩
  case round =>
    obtain ⟨k, hk, rfl⟩ := hrel
    have hkn : k < n := by have := HN.out; omega
    have hc := (HB.out.2 k (by omega)).1
    by_cases hlt : k < j
    · rw [H2.out k hlt] at hc
      go_wp2_with fail
      go_round
      case rel => exact ⟨k + 1, by omega, by go_num⟩
      case measure => simp [intOf]; omega
    · have HK : Hid (k = j) := by show k = j; omega
      rw [HK.out, H1.out] at hc
      rw [← HK.out] at hc
      clear hlt hk hj
      go_wp2_with fail
      go_ret
      exact ⟨by rw [← HK.out]; rfl, rfl⟩
theorem info_bool : (Tryz.prog.info? 4).map (fun i => (i.zero, i.size, i.bytes)) = some (some (.bool false), 1, 1) := by kernel_rfl
theorem madeB (n : Nat) : (madeCells (Value.bool false).cells (n * 1)).toList = List.replicate n (.bool false) := by
  refine List.ext_getElem (by simp [madeCells]) fun i h1 h2 => ?_
  simp [madeCells, Value.cells, Nat.mod_one]
theorem bufB_of_own {w : World} {base g n cap : Nat} (h : w.ownsRow base 4 1 (.slice (some ⟨g, 0, none⟩) n cap) n (List.replicate n (.bool false))) : BufB w g (List.replicate n false) := by
  have hlt := (own_lt h).1
  obtain ⟨h0, ⟨e, _⟩ | ⟨g', cap', cur, e, _, hh, hl, hm, hc, ht⟩⟩ := h
  · simp at e
  · injection e with e1 e2 e3
    injection e1 with e1
    injection e1 with e4 _
    subst e4 e3
    refine ⟨hlt, fun k hk => ?_⟩
    rw [List.length_replicate] at hk
    refine ⟨?_, by simp [World.frozen?, hh]⟩
    have hat : cur[k]? = some (.bool false) := by
      have : (List.replicate n (Value.bool false))[k]? = some (.bool false) := by simp [hk]
      rw [← ht, List.getElem?_take_of_lt (by omega)] at this
      simpa using this
    have e : (List.replicate n false).getD k false = false := by
      rw [List.getD_eq_getElem?_getD]; simp [hk]
    rw [e]
    simp only [World.cell?, hh]
    simpa using hat
set_option maxRecDepth 100000 in
set_option maxHeartbeats 400000 in
theorem fresh_ok (c : Nat) (hc : Cl c) (v : Value) (ss : List ByteArray) (w : World) (hS : IsS w v ss) (hlen : ss.length ≤ 4000000) :
    Calls Tryz.prog 51 #[.int .i64 (c : Int), v] w fun e w' => (∃ n, FrOk c (ss.map bl) n ∧ e = .returned (.tuple #[.int .u32 (n : Int), .int .i64 0])) ∧ Below w.heap.size w w' := by
  obtain ⟨a, cap, rfl⟩ := hS.shape
  have HS := hd hS
  have HC := hd hc
  obtain ⟨i0, hi, hz0, hz1, hz2⟩ := info_parts info_bool
  clear hS hc
  go_enter Tryz.func51, Tryz.ntmps51
  go_wp2_with fail
  refine Calls.mono (around_is c HC.out w) ?_
  rintro e w0 ⟨rfl, rfl⟩
  go_wp2_with (at_make; refine wpList_make_full _ rfl _ _ 143 rfl w0.heap.size 4 i0 (.bool false) 1 Tryz.underlying143 hi hz0 hz1 .i64 .i64 ((ss.length : Int) + 1) ((ss.length : Int) + 1) (ss.length + 1) rfl rfl rfl rfl (by rw [hz2]; omega) (by unfold maxLen; omega) (Nat.le_refl _) ?_; intro w1 hown hgrow)
  have HB1 : Hid (Below w0.heap.size w0 w1) := (Below.refl _ _).grown hgrow (Nat.le_refl _) (fun k hk => by cases hk)
  have HO1 : Hid (BufB w1 w0.heap.size (mrk c (ss.length + 1) [])) := by
    show BufB w1 w0.heap.size (mrk c (ss.length + 1) [])
    rw [mrk_nil]
    rw [madeB] at hown
    exact bufB_of_own hown
  clear hown hgrow hi hz0 hz1 hz2
  go_loopw [27] (fun i wr => ∃ k : Nat, k ≤ ss.length ∧ i = .int .i64 (k : Int) ∧ BufB wr w0.heap.size (mrk c (ss.length + 1) ((ss.take k).map bl)) ∧ Below w0.heap.size w0 wr) (fun i _ => ss.length - (intOf i).toNat)
  case atStart => exact ⟨0, by omega, rfl, HO1.out, HB1.out⟩
  case round =>
    obtain ⟨k, hk, rfl, hO, hB⟩ := hrel
    have HO := hd hO
    have HB := hd hB
    clear hO hB HO1 HB1
    by_cases hlt : k < ss.length
    · have hSr := HS.out.below HB.out rfl
      obtain ⟨b, off, ha, hbl, _, hcell, hsz⟩ := hSr.at hlt
      have HT := hd (congrArg (List.map bl) (take_succ_S hlt))
      rw [List.map_append] at HT
      have HSr := hd hSr
      clear hSr
      have HA := hd ha
      rw [ha]
      clear ha
      generalize ss.getD k ByteArray.empty = s at *
      have hll : (mrk c (ss.length + 1) ((ss.take k).map bl)).length = ss.length + 1 := mrk_len _ _ _
      go_wp2_with fail
      refine Calls.mono (takes_is s c HC.out _ hsz) ?_
      rintro e wr ⟨rfl, rfl⟩
      have htl := tk_lt c (bl s)
      by_cases h0 : tk c (bl s) = 0
      · have HM := hd (mrk_out c (ss.length + 1) ((ss.take k).map bl) (bl s) (.inl h0))
        rw [h0]
        clear h0 htl
        go_wp2_with fail
        go_roundw
        case rel => exact ⟨k + 1, by omega, by go_num, by rw [HT.out]; show BufB _ _ (mrk c _ (_ ++ [bl s])); rw [HM.out]; exact HO.out, HB.out⟩
        case measure => simp [intOf]; omega
      · have hpos : 0 < tk c (bl s) := by omega
        by_cases hle : tk c (bl s) ≤ ss.length + 1
        · have HM := hd (mrk_in c (ss.length + 1) ((ss.take k).map bl) (bl s) hpos hle)
          obtain ⟨hcj, hfj⟩ := HO.out.2 (tk c (bl s) - 1) (by omega)
          have HO2 := hd (HO.out.set (j := tk c (bl s) - 1) (by omega) true)
          rw [HM.out] at HO2
          obtain ⟨t, ht⟩ : ∃ t : Nat, tk c (bl s) = t + 1 := ⟨tk c (bl s) - 1, by omega⟩
          rw [ht, Nat.add_sub_cancel] at hcj hfj HO2
          rw [ht] at hle htl ⊢
          clear h0 hpos HM hll ht
          go_wp2_with fail
          refine ⟨⟨k + 1, by omega, by go_num, by rw [HT.out]; exact HO2.out, HB.out.setCell (Nat.le_refl _) _⟩, by simp [intOf]; omega⟩
        · have HM := hd (mrk_out c (ss.length + 1) ((ss.take k).map bl) (bl s) (.inr (by omega)))
          generalize tk c (bl s) = t at *
          clear h0
          go_wp2_with fail
          go_roundw
          case rel => exact ⟨k + 1, by omega, by go_num, by rw [HT.out]; show BufB _ _ (mrk c _ (_ ++ [bl s])); rw [HM.out]; exact HO.out, HB.out⟩
          case measure => simp [intOf]; omega
    · have hke : ss.take k = ss := List.take_of_length_le (by omega)
      rw [hke] at HO
      have hli : ¬ ((k : Nat) : Int) < (ss.length : Int) := by omega
      clear hke hlt hk
      obtain ⟨j, hj, hj1, hj2⟩ := mrk_first c (ss.map bl)
      rw [List.length_map] at hj hj1 hj2
      have HF : Hid (FrOk c (ss.map bl) (j + 1)) := frok_of (by rw [List.length_map]; exact hj) (by rw [List.length_map]; exact hj1) (by rw [List.length_map]; exact hj2)
      have HIX := hd (index_is wr w0.heap.size (ss.length + 1) _ HO.out (mrk_len _ _ _).symm (by unfold maxLen; omega) j (by rw [mrk_len]; exact hj) hj1 hj2)
      clear hj1 hj2
      go_wp2_with fail
      refine Calls.mono HIX.out ?_
      rintro e wr ⟨rfl, rfl⟩
      go_wp2_with fail
      go_ret2
      exact ⟨⟨j + 1, HF.out, rfl⟩, HB.out⟩
theorem fresh_no (c : Int) (h1 : c ≠ 1) (h2 : c ≠ 2) (h3 : c ≠ 3) (v : Value) (w : World) :
    Calls Tryz.prog 51 #[.int .i64 c, v] w fun e w' => e = .returned (.tuple #[.int .u32 0, .int .i64 60]) ∧ w' = w := by
  go_enter Tryz.func51, Tryz.ntmps51
  go_wp2_with fail
  refine Calls.mono (around_no c h1 h2 h3 w) ?_
  rintro e w0 ⟨rfl, rfl⟩
  go_wp2_with fail
  go_ret2
  exact ⟨rfl, rfl⟩
end Nam
end Go.Proofs.YtnakaomgceoobaaGreat
