/-
  The library's contracts, laid at this program's numbers. No condition beyond those that each row bears.
  THE WALKS OF names.read and names.numberIn: what 'rd' and 'numIn' say.
-/
import Derived.Shelf.Small.Strs
import Derived.Shelf.Small.Wraps
import Derived.Shelf.Strings.Search1
import Derived.Shelf.Strings.Prefix
import Derived.Test.YtolddolfpnkndaaGreatRows
import Derived.Test.YtolddolfpnkndaaGreatXuaj
import Derived.Test.YtolddolfpnkndaaGreatXuaa
namespace Go.Proofs.YtolddolfpnkndaaGreat
namespace Nam
open Go.Shelf
def lays137_ren : Go.Shelf.Ren := ⟨fun | 137 => 145 | 217 => 153 | 266 => 155 | n => n, fun | 9 => 9 | 5 => 5 | 3 => 3 | n => n, fun | n => n⟩
theorem lays137 : Go.Proofs.Lays.n137 Tryz.prog lays137_ren := {
  mixed := by kernel_rfl
  f137 := Tryz.func145.trans (congrArg some (by kernel_rfl))
  f217 := Tryz.func153.trans (congrArg some (by kernel_rfl))
  f266 := Tryz.func155.trans (congrArg some (by kernel_rfl))
  t3 := Tryz.underlying3
  a3 := Tryz.isAgg3
  z3 := Tryz.sizeOf3
  v3 := Tryz.zeroValue3
  t5 := Tryz.underlying5
  a5 := Tryz.isAgg5
  z5 := Tryz.sizeOf5
  v5 := Tryz.zeroValue5
  t9 := Tryz.underlying9
  a9 := Tryz.isAgg9
  z9 := Tryz.sizeOf9
  v9 := Tryz.zeroValue9 }
open Go.RowKit in
theorem strings_IndexByte (s : ByteArray) (c : Int) (w : World) :
    Calls Tryz.prog 145 #[.string s, .int .u8 c] w fun e w' => e = .returned (.int .i64 (Lib.indexByte s.data.toList c.toNat.toUInt8)) ∧ w' = w := Any.strings_IndexByte lays137 s c w
def lays210_ren : Go.Shelf.Ren := ⟨fun | 210 => 143 | 206 => 152 | n => n, fun | 9 => 9 | 4 => 4 | 3 => 3 | n => n, fun | n => n⟩
open Go.RowKit in
def lays103_ren : Go.Shelf.Ren := ⟨fun | 103 => 129 | 210 => 143 | 206 => 152 | n => n, fun | 9 => 9 | 4 => 4 | 24 => 204 | 3 => 3 | n => n, fun | n => n⟩
theorem lays103 : Go.Proofs.Lays.n103 Tryz.prog lays103_ren := {
  mixed := by kernel_rfl
  f103 := Tryz.func129.trans (congrArg some (by kernel_rfl))
  f206 := Tryz.func152.trans (congrArg some (by kernel_rfl))
  f210 := Tryz.func143.trans (congrArg some (by kernel_rfl))
  t3 := Tryz.underlying3
  a3 := Tryz.isAgg3
  z3 := Tryz.sizeOf3
  v3 := Tryz.zeroValue3
  t4 := Tryz.underlying4
  a4 := Tryz.isAgg4
  z4 := Tryz.sizeOf4
  v4 := Tryz.zeroValue4
  t9 := Tryz.underlying9
  a9 := Tryz.isAgg9
  z9 := Tryz.sizeOf9
  v9 := Tryz.zeroValue9
  t24 := Tryz.underlying204
  a24 := Tryz.isAgg204
  z24 := Tryz.sizeOf204
  v24 := Tryz.zeroValue204 }
open Go.RowKit in
theorem strings_CutPrefix (s p : ByteArray) (w : World) :
    Calls Tryz.prog 129 #[.string s, .string p] w fun e w' => e = .returned (.tuple #[.string ⟨(Lib.trimPrefix s.data.toList p.data.toList).toArray⟩, .bool (Lib.hasPrefix s.data.toList p.data.toList)]) ∧ w' = w := Any.strings_CutPrefix lays103 s p w
def lays211_ren : Go.Shelf.Ren := ⟨fun | 211 => 144 | 207 => 128 | n => n, fun | 9 => 9 | 4 => 4 | 3 => 3 | n => n, fun | n => n⟩
open Go.RowKit in
def lays104_ren : Go.Shelf.Ren := ⟨fun | 104 => 130 | 211 => 144 | 207 => 128 | n => n, fun | 9 => 9 | 4 => 4 | 24 => 204 | 3 => 3 | n => n, fun | n => n⟩
theorem lays104 : Go.Proofs.Lays.n104 Tryz.prog lays104_ren := {
  mixed := by kernel_rfl
  f104 := Tryz.func130.trans (congrArg some (by kernel_rfl))
  f207 := Tryz.func128.trans (congrArg some (by kernel_rfl))
  f211 := Tryz.func144.trans (congrArg some (by kernel_rfl))
  t3 := Tryz.underlying3
  a3 := Tryz.isAgg3
  z3 := Tryz.sizeOf3
  v3 := Tryz.zeroValue3
  t4 := Tryz.underlying4
  a4 := Tryz.isAgg4
  z4 := Tryz.sizeOf4
  v4 := Tryz.zeroValue4
  t9 := Tryz.underlying9
  a9 := Tryz.isAgg9
  z9 := Tryz.sizeOf9
  v9 := Tryz.zeroValue9
  t24 := Tryz.underlying204
  a24 := Tryz.isAgg204
  z24 := Tryz.sizeOf204
  v24 := Tryz.zeroValue204 }
open Go.RowKit in
theorem strings_CutSuffix (s p : ByteArray) (w : World) (hs : s.size ≤ 9223372036854775807) :
    Calls Tryz.prog 130 #[.string s, .string p] w fun e w' => e = .returned (.tuple #[.string ⟨(Lib.trimSuffix s.data.toList p.data.toList).toArray⟩, .bool (Lib.hasSuffix s.data.toList p.data.toList)]) ∧ w' = w := Any.strings_CutSuffix lays104 s p w hs
def lays217_ren : Go.Shelf.Ren := ⟨fun | 217 => 153 | 266 => 155 | n => n, fun | 9 => 9 | 5 => 5 | 3 => 3 | n => n, fun | n => n⟩
open Go.RowKit Go.Lib in
def lays206_ren : Go.Shelf.Ren := ⟨fun | 206 => 152 | n => n, fun | 9 => 9 | 4 => 4 | 3 => 3 | n => n, fun | n => n⟩
open Go.RowKit Go.Lib in
def lays207_ren : Go.Shelf.Ren := ⟨fun | 207 => 128 | n => n, fun | 9 => 9 | 4 => 4 | 3 => 3 | n => n, fun | n => n⟩
open Go.RowKit Go.Lib in
def lays100_ren : Go.Shelf.Ren := ⟨fun | 100 => 121 | 207 => 128 | n => n, fun | 9 => 9 | 4 => 4 | 3 => 3 | n => n, fun | n => n⟩
theorem lays100 : Go.Proofs.Lays.n100 Tryz.prog lays100_ren := {
  mixed := by kernel_rfl
  f100 := Tryz.func121.trans (congrArg some (by kernel_rfl))
  f207 := Tryz.func128.trans (congrArg some (by kernel_rfl))
  t3 := Tryz.underlying3
  a3 := Tryz.isAgg3
  z3 := Tryz.sizeOf3
  v3 := Tryz.zeroValue3
  t4 := Tryz.underlying4
  a4 := Tryz.isAgg4
  z4 := Tryz.sizeOf4
  v4 := Tryz.zeroValue4
  t9 := Tryz.underlying9
  a9 := Tryz.isAgg9
  z9 := Tryz.sizeOf9
  v9 := Tryz.zeroValue9 }
open Go.RowKit Go.Lib in
theorem strings_HasSuffix (s p : ByteArray) (w : World) (hs : s.size ≤ 9223372036854775807) :
    Calls Tryz.prog 121 #[.string s, .string p] w fun e w' => e = .returned (.bool (Lib.hasSuffix s.data.toList p.data.toList)) ∧ w' = w := Any.strings_HasSuffix lays100 s p w hs
def lays209_ren : Go.Shelf.Ren := ⟨fun | 209 => 123 | 207 => 128 | n => n, fun | 9 => 9 | 4 => 4 | 3 => 3 | n => n, fun | n => n⟩
open Go.RowKit Go.Lib in
def lays102_ren : Go.Shelf.Ren := ⟨fun | 102 => 103 | 209 => 123 | 207 => 128 | n => n, fun | 9 => 9 | 4 => 4 | 3 => 3 | n => n, fun | n => n⟩
theorem lays102 : Go.Proofs.Lays.n102 Tryz.prog lays102_ren := {
  mixed := by kernel_rfl
  f102 := Tryz.func103.trans (congrArg some (by kernel_rfl))
  f207 := Tryz.func128.trans (congrArg some (by kernel_rfl))
  f209 := Tryz.func123.trans (congrArg some (by kernel_rfl))
  t3 := Tryz.underlying3
  a3 := Tryz.isAgg3
  z3 := Tryz.sizeOf3
  v3 := Tryz.zeroValue3
  t4 := Tryz.underlying4
  a4 := Tryz.isAgg4
  z4 := Tryz.sizeOf4
  v4 := Tryz.zeroValue4
  t9 := Tryz.underlying9
  a9 := Tryz.isAgg9
  z9 := Tryz.sizeOf9
  v9 := Tryz.zeroValue9 }
open Go.RowKit Go.Lib in
theorem strings_TrimSuffix (s p : ByteArray) (w : World) (hs : s.size ≤ 9223372036854775807) :
    Calls Tryz.prog 103 #[.string s, .string p] w fun e w' => e = .returned (.string ⟨(Lib.trimSuffix s.data.toList p.data.toList).toArray⟩) ∧ w' = w := Any.strings_TrimSuffix lays102 s p w hs
end Nam
end Go.Proofs.YtolddolfpnkndaaGreat
namespace Go.Proofs.YtolddolfpnkndaaGreat
open Go.RowKit
namespace Nam
open Vt
theorem toNat_inj : ∀ a b : UInt8, a.toNat = b.toNat → a = b := fun _ _ h => UInt8.toNat_inj.1 h
theorem bl_def (s : ByteArray) : bl s = s.data.toList.map UInt8.toNat := rfl
theorem map_inj8 {a b : List UInt8} (h : a.map UInt8.toNat = b.map UInt8.toNat) : a = b := List.map_inj_right (fun _ _ h => UInt8.toNat_inj.1 h) |>.1 h
theorem suf_map {a b : List UInt8} : a.map UInt8.toNat <:+ b.map UInt8.toNat ↔ a <:+ b := by
  constructor
  · intro h
    rw [List.suffix_iff_eq_drop, List.length_map, List.length_map, ← List.map_drop] at h
    rw [List.suffix_iff_eq_drop]
    exact map_inj8 h
  · exact fun h => h.map _
theorem pre_map {a b : List UInt8} : a.map UInt8.toNat <+: b.map UInt8.toNat ↔ a <+: b := by
  constructor
  · intro h
    rw [List.prefix_iff_eq_take, List.length_map, ← List.map_take] at h
    rw [List.prefix_iff_eq_take]
    exact map_inj8 h
  · exact fun h => h.map _
theorem has_suf (s p : ByteArray) : Lib.hasSuffix s.data.toList p.data.toList = decide (bl p <:+ bl s) := by
  unfold Lib.hasSuffix
  rw [Bool.eq_iff_iff, List.isSuffixOf_iff_suffix, decide_eq_true_iff, bl_def, bl_def, suf_map]
theorem has_pre (s p : ByteArray) : Lib.hasPrefix s.data.toList p.data.toList = decide (bl p <+: bl s) := by
  unfold Lib.hasPrefix
  rw [Bool.eq_iff_iff, List.isPrefixOf_iff_prefix, decide_eq_true_iff, bl_def, bl_def, pre_map]
theorem bl_mk (l : List UInt8) : bl ⟨l.toArray⟩ = l.map UInt8.toNat := by rw [bl_def]
theorem mk_str (l : List UInt8) : (⟨l.toArray⟩ : ByteArray) = str (l.map UInt8.toNat) := by rw [← bl_mk, str_bl]
/-- what read tells -/
def rd (l : List Nat) : Nat := if l.length = 8 ∧ ∀ x ∈ l, hv x < 16 then val l else 0
set_option maxRecDepth 100000 in
theorem digit_ix (x : Nat) (h : x < 256) : Lib.indexByte [48, 49, 50, 51, 52, 53, 54, 55, 56, 57, 97, 98, 99, 100, 101, 102] (UInt8.ofNat x) = if hv x < 16 then ((hv x : Nat) : Int) else -1 := by
  have : ∀ x : Fin 256, Lib.indexByte [48, 49, 50, 51, 52, 53, 54, 55, 56, 57, 97, 98, 99, 100, 101, 102] (UInt8.ofNat x.val) = if hv x.val < 16 then ((hv x.val : Nat) : Int) else -1 := by decide
  exact this ⟨x, h⟩
theorem bl_get (s : ByteArray) (k : Nat) (h : k < s.size) : (s[k]'h).toNat = (bl s).getD k 0 := by
  rw [List.getD_eq_getElem?_getD, bl_def, List.getElem?_map]
  have : s.data.toList[k]? = some s[k] := by
    rw [Array.getElem?_toList]
    exact Array.getElem?_eq_getElem h
  rw [this]; rfl
set_option maxRecDepth 100000 in
set_option maxHeartbeats 400000 in
theorem read_is (s : ByteArray) (w : World) :
    Calls Tryz.prog 131 #[.string s] w fun e w' => e = .returned (.int .u32 ((rd (bl s) : Nat) : Int)) ∧ w' = w := by
  have HL := hd (bl_len s)
  by_cases h8 : s.size = 8
  · go_enter Tryz.func131, Tryz.ntmps131
    go_wp2_with fail
    go_loop [3, 9] (fun s' i => ∃ k : Nat, k ≤ 8 ∧ i = .int .i64 (k : Int) ∧ s' = .int .u32 ((val ((bl s).take k) : Nat) : Int) ∧ ∀ x ∈ (bl s).take k, hv x < 16) (fun _ i => 8 - (intOf i).toNat)
    case atStart => exact ⟨0, by omega, rfl, rfl, by intro x hx; simp at hx⟩
    case round =>
      obtain ⟨k, hk, rfl, rfl, he⟩ := hrel
      have HE := hd he
      clear he
      by_cases hlt : k < 8
      · have hli : ((k : Nat) : Int) < 8 := by omega
        have hx := getD_lt (bl_byt s) k
        have HX := hd (bl_get s k (by omega))
        have HT := hd (take_succ_getD (l := bl s) (k := k) (by rw [HL.out]; omega))
        obtain ⟨x, hxe⟩ : ∃ x, x = (bl s).getD k 0 := ⟨_, rfl⟩
        rw [← hxe] at hx HX HT
        clear hxe
        have HS := hd (val_snoc ((bl s).take k) x)
        rw [← HT.out] at HS
        have hvl := val_lt HE.out
        rw [List.length_take, show min k (bl s).length = k by rw [HL.out]; omega] at hvl
        have hb8 : val ((bl s).take k) < 268435456 := by
          have : 16 ^ k ≤ 16 ^ 7 := Nat.pow_le_pow_right (by omega) (by omega)
          omega
        clear hvl
        go_wp2_with fail
        refine Calls.mono (strings_IndexByte _ _ _) ?_
        rintro e w' ⟨rfl, rfl⟩
        rw [show ((((s[k]'(by omega)).toNat : Nat) : Int).toNat.toUInt8) = UInt8.ofNat x by rw [Int.toNat_natCast, HX.out]]
        have HI : Hid _ := digit_ix x hx
        by_cases hg : hv x < 16
        · rw [if_pos hg] at HI
          rw [HI.out]
          have HE2 : Hid (∀ y ∈ (bl s).take (k + 1), hv y < 16) := by
            show ∀ y ∈ (bl s).take (k + 1), hv y < 16
            rw [HT.out]
            intro y hy
            rcases List.mem_append.1 hy with hy | hy
            · exact HE.out y hy
            · simp at hy; rw [hy]; exact hg
          generalize val ((bl s).take k) = n at *
          generalize hv x = d at *
          go_wp2_with fail
          go_round
          case rel => exact ⟨k + 1, by omega, by go_num, by rw [HS.out, Int.natCast_add, Int.natCast_mul]; rfl, HE2.out⟩
          case measure => simp [intOf]; omega
        · rw [if_neg hg] at HI
          rw [HI.out]
          have HR : Hid (rd (bl s) = 0) := by
            show rd (bl s) = 0
            unfold rd
            rw [if_neg]
            rintro ⟨_, h2⟩
            refine hg (h2 x ?_)
            have : x ∈ (bl s).take (k + 1) := by rw [HT.out]; simp
            exact List.mem_of_mem_take this
          clear hg
          generalize val ((bl s).take k) = n at *
          go_wp2_with fail
          go_ret
          exact ⟨by rw [HR.out]; rfl, rfl⟩
      · have hli : ¬ ((k : Nat) : Int) < 8 := by omega
        have HR : Hid (rd (bl s) = val ((bl s).take k)) := by
          show rd (bl s) = val ((bl s).take k)
          have HE' := HE.out
          rw [List.take_of_length_le (by rw [HL.out]; omega)] at HE' ⊢
          unfold rd; rw [if_pos ⟨by rw [HL.out, h8], HE'⟩]
        clear hk hlt
        generalize val ((bl s).take k) = n at *
        go_wp2_with fail
        go_ret
        exact ⟨by rw [HR.out]; rfl, rfl⟩
  · have HR : Hid (rd (bl s) = 0) := by
      show rd (bl s) = 0
      unfold rd; rw [if_neg (by rw [HL.out]; omega)]
    go_enter Tryz.func131, Tryz.ntmps131
    go_wp2_with fail
    go_ret
    exact ⟨by rw [HR.out]; rfl, rfl⟩
theorem numIn_split (c : Nat) (t : List Nat) : numIn c (ahd c ++ (t ++ atl c)) = rd t := by
  by_cases h : t.length = 8
  · unfold numIn rd
    rw [mid_mk c t h]
    by_cases h2 : ∀ x ∈ t, hv x < 16
    · rw [if_pos ⟨rfl, h, h2⟩, if_pos ⟨h, h2⟩]
    · rw [if_neg (fun q => h2 q.2.2), if_neg (fun q => h2 q.2)]
  · have e : rd t = 0 := by unfold rd; rw [if_neg (fun q => h q.1)]
    rw [e]
    rcases Nat.eq_zero_or_pos (numIn c (ahd c ++ (t ++ atl c))) with h1 | h1
    · exact h1
    · have h2 := (numIn_of h1).1
      unfold mk at h2
      have h3 := List.append_cancel_right (List.append_cancel_left h2)
      rw [h3, hex_len] at h
      exact absurd rfl h
theorem numIn_none {c : Nat} {s : List Nat} (h : ∀ t, s ≠ ahd c ++ (t ++ atl c)) : numIn c s = 0 := by
  rcases Nat.eq_zero_or_pos (numIn c s) with h1 | h1
  · exact h1
  · exact absurd (numIn_of h1).1 (h _)
theorem sz_bl {s : ByteArray} {l : List Nat} (h : bl s = l) : s.size = l.length := by rw [← bl_len, h]
theorem trim_pre (s p : ByteArray) (r : List Nat) (h : bl s = bl p ++ r) : (⟨(Lib.trimPrefix s.data.toList p.data.toList).toArray⟩ : ByteArray) = str r := by
  have h1 : Lib.hasPrefix s.data.toList p.data.toList = true := by rw [has_pre, decide_eq_true_iff, h]; exact ⟨r, rfl⟩
  unfold Lib.trimPrefix
  rw [h1, if_pos rfl, mk_str, List.map_drop, ← bl_def, h, List.drop_left' (by rw [bl_def, List.length_map])]
theorem trim_suf (s p : ByteArray) (r : List Nat) (h : bl s = r ++ bl p) : (⟨(Lib.trimSuffix s.data.toList p.data.toList).toArray⟩ : ByteArray) = str r := by
  have h1 : Lib.hasSuffix s.data.toList p.data.toList = true := by rw [has_suf, decide_eq_true_iff, h]; exact ⟨r, rfl⟩
  unfold Lib.trimSuffix
  rw [h1, if_pos rfl, mk_str, List.map_take, ← bl_def, h, List.take_left']
  have : s.data.toList.length = (bl s).length := by rw [bl_def, List.length_map]
  rw [this, h, List.length_append, bl_def, List.length_map]
  omega
theorem around_is (c : Nat) (hc : Cl c) (w : World) :
    Calls Tryz.prog 79 #[.int .i64 (c : Int)] w fun e w' => e = .returned (.tuple #[.string (str (ahd c)), .string (str (atl c)), .bool true]) ∧ w' = w := by
  rcases hc with rfl | rfl | rfl
  all_goals
    go_enter Tryz.func79, Tryz.ntmps79
    go_wp2
    go_ret3
    exact ⟨rfl, rfl⟩
set_option maxRecDepth 100000 in
set_option maxHeartbeats 400000 in
theorem numberIn_is (s : ByteArray) (c : Nat) (hc : Cl c) (w : World) (hs : s.size ≤ maxLen) :
    Calls Tryz.prog 122 #[.string s, .int .i64 (c : Int)] w fun e w' => e = .returned (.int .u32 ((numIn c (bl s) : Nat) : Int)) ∧ w' = w := by
  have hs0 : s.size ≤ 9223372036854775807 := by unfold maxLen at hs; omega
  go_enter Tryz.func122, Tryz.ntmps122
  go_wp2_with fail
  refine Calls.mono (around_is c hc w) ?_
  rintro e w' ⟨rfl, rfl⟩
  go_wp2_with fail
  refine Calls.mono (strings_CutPrefix _ _ _) ?_
  rintro e w' ⟨rfl, rfl⟩
  rw [has_pre, bl_str (ahd_byt c)]
  by_cases hp : ahd c <+: bl s
  · obtain ⟨r, hr⟩ := hp
    rw [trim_pre s (str (ahd c)) r (by rw [bl_str (ahd_byt c)]; exact hr.symm), decide_eq_true (p := ahd c <+: bl s) ⟨r, hr⟩]
    have hbr : Byt r := by have := byt_drop (bl_byt s) 4; rw [← hr, List.drop_left' (ahd_len c)] at this; exact this
    have hrs : (str r).size ≤ 9223372036854775807 := by
      rw [str_size hbr]
      have := sz_bl hr.symm
      rw [List.length_append] at this
      omega
    go_wp2_with fail
    refine Calls.mono (strings_CutSuffix _ _ _ hrs) ?_
    rintro e w' ⟨rfl, rfl⟩
    rw [has_suf, bl_str (atl_byt c), bl_str hbr]
    by_cases hq : atl c <:+ r
    · obtain ⟨t, ht⟩ := hq
      rw [trim_suf (str r) (str (atl c)) t (by rw [bl_str (atl_byt c), bl_str hbr]; exact ht.symm), decide_eq_true (p := atl c <:+ r) ⟨t, ht⟩]
      have hbt : Byt t := by intro x hx; exact hbr x (by rw [← ht]; exact List.mem_append_left _ hx)
      have HR : Hid (numIn c (bl s) = rd t) := by
        show numIn c (bl s) = rd t
        rw [← hr, ← ht]; exact numIn_split c t
      clear hr ht hbr hrs
      go_wp2_with fail
      refine Calls.mono (read_is _ _) ?_
      rintro e w' ⟨rfl, rfl⟩
      rw [bl_str hbt]
      go_wp2_with fail
      go_ret
      exact ⟨by rw [HR.out]; rfl, rfl⟩
    · rw [decide_eq_false hq]
      have HR : Hid (numIn c (bl s) = 0) := by
        show numIn c (bl s) = 0
        refine numIn_none fun t h => hq ⟨t, ?_⟩
        rw [← hr] at h
        exact (List.append_cancel_left h).symm
      go_wp2_with fail
      go_ret
      exact ⟨by rw [HR.out]; rfl, rfl⟩
  · rw [decide_eq_false hp]
    have HR : Hid (numIn c (bl s) = 0) := by
      show numIn c (bl s) = 0
      exact numIn_none fun t h => hp ⟨_, h.symm⟩
    have hrs : (⟨(Lib.trimPrefix s.data.toList (str (ahd c)).data.toList).toArray⟩ : ByteArray).size ≤ 9223372036854775807 := by
      unfold Lib.trimPrefix
      rw [has_pre, bl_str (ahd_byt c), decide_eq_false hp, if_neg (by simp)]
      exact hs0
    go_wp2_with fail
    refine Calls.mono (strings_CutSuffix _ _ _ hrs) ?_
    rintro e w' ⟨rfl, rfl⟩
    go_wp2_with fail
    go_ret
    exact ⟨by rw [HR.out]; rfl, rfl⟩
end Nam
end Go.Proofs.YtolddolfpnkndaaGreat
