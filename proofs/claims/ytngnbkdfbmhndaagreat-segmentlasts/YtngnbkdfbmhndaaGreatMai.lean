/-
  THE PLAIN MATHEMATICS OF FILE NAMES, of lists of bytes: eight digits there and back, what a name of a class is, what Parse tells, and that both go with one another. No program here.
  The library's contracts, laid at this program's numbers. No condition beyond those that each row bears.
  THE WALKS OF names.read and names.numberIn: what 'rd' and 'numIn' say.
-/
import Derived.Test.YtngnbkdfbmhndaaGreatMah
import Derived.Shelf.Small.Strs
import Derived.Shelf.Small.Wraps
import Derived.Shelf.Strings.Search1
import Derived.Shelf.Strings.Prefix
import Derived.Test.YtngnbkdfbmhndaaGreatRows
import Derived.Test.YtngnbkdfbmhndaaGreatMaa
namespace Go.Proofs.YtngnbkdfbmhndaaGreat
namespace Nam
open Vt
/-- a digit's byte -/
def hx (d : Nat) : Nat := if d < 10 then 48 + d else 87 + d
/-- a byte's digit (16: it is none) -/
def hv (x : Nat) : Nat := if 48 ≤ x ∧ x < 58 then x - 48 else if 97 ≤ x ∧ x < 103 then x - 87 else 16
theorem hv_hx {d : Nat} (h : d < 16) : hv (hx d) = d := by unfold hv hx; split <;> split <;> (try split) <;> omega
theorem hx_hv {x : Nat} (h : hv x < 16) : hx (hv x) = x := by
  unfold hv at *
  by_cases h1 : 48 ≤ x ∧ x < 58
  · rw [if_pos h1]; unfold hx; rw [if_pos (by omega)]; omega
  · rw [if_neg h1] at h ⊢
    by_cases h2 : 97 ≤ x ∧ x < 103
    · rw [if_pos h2]; unfold hx; rw [if_neg (by omega)]; omega
    · rw [if_neg h2] at h; omega
theorem hx_lt {d : Nat} (h : d < 16) : hx d < 256 := by unfold hx; split <;> omega
/-- j digits of a number -/
def hex : Nat → Nat → List Nat
  | 0, _ => []
  | j + 1, n => hx (n / 16 ^ j % 16) :: hex j n
theorem hex_len (j n : Nat) : (hex j n).length = j := by induction j with
  | zero => rfl
  | succ j ih => simp [hex, ih]
theorem hex_byt (j n : Nat) : Byt (hex j n) := by
  induction j with
  | zero => exact byt_nil
  | succ j ih =>
    intro x hx
    rcases List.mem_cons.1 hx with rfl | hx
    · exact hx_lt (by omega)
    · exact ih x hx
theorem hex_good (j n : Nat) : ∀ x ∈ hex j n, hv x < 16 := by
  induction j with
  | zero => intro x hx; simp [hex] at hx
  | succ j ih =>
    intro x hx
    rcases List.mem_cons.1 hx with rfl | hx
    · rw [hv_hx (by omega)]; omega
    · exact ih x hx
/-- the number that digits write -/
def val : List Nat → Nat
  | [] => 0
  | x :: r => hv x * 16 ^ r.length + val r
theorem val_snoc (l : List Nat) (x : Nat) : val (l ++ [x]) = val l * 16 + hv x := by
  induction l with
  | nil => simp [val]
  | cons y r ih =>
    simp only [List.cons_append, val, ih, List.length_append, List.length_singleton, Nat.pow_succ, Nat.add_mul, Nat.mul_assoc]
    omega
theorem pow16 (j : Nat) : 0 < 16 ^ j := Nat.pow_pos (by omega)
theorem val_lt {l : List Nat} (h : ∀ x ∈ l, hv x < 16) : val l < 16 ^ l.length := by
  induction l with
  | nil => simp [val]
  | cons y r ih =>
    have h1 := ih fun x hx => h x (List.mem_cons_of_mem _ hx)
    have h2 := h y List.mem_cons_self
    have h3 : hv y * 16 ^ r.length ≤ 15 * 16 ^ r.length := Nat.mul_le_mul_right _ (by omega)
    simp only [val, List.length_cons, Nat.pow_succ]
    omega
theorem hex_add (j a m : Nat) : hex j (a * 16 ^ j + m) = hex j m := by
  induction j generalizing a with
  | zero => rfl
  | succ j ih =>
    have e : a * 16 ^ (j + 1) + m = a * 16 * 16 ^ j + m := by rw [Nat.pow_succ, Nat.mul_comm (16 ^ j), ← Nat.mul_assoc]
    rw [e]
    simp only [hex]
    rw [ih]
    congr 2
    rw [Nat.add_comm, Nat.add_mul_div_right _ _ (pow16 j)]
    omega
theorem hex_val {l : List Nat} (h : ∀ x ∈ l, hv x < 16) : hex l.length (val l) = l := by
  induction l with
  | nil => rfl
  | cons y r ih =>
    have h0 : ∀ x ∈ r, hv x < 16 := fun x hx => h x (List.mem_cons_of_mem _ hx)
    have h1 := val_lt h0
    have h2 := h y List.mem_cons_self
    simp only [List.length_cons, hex, val]
    rw [hex_add, ih h0, Nat.add_comm (hv y * _), Nat.add_mul_div_right _ _ (pow16 _), Nat.div_eq_of_lt h1, Nat.zero_add, Nat.mod_eq_of_lt h2, hx_hv h2]
theorem val_hex (j n : Nat) : val (hex j n) = n % 16 ^ j := by
  induction j with
  | zero => simp [hex, val, Nat.mod_one]
  | succ j ih =>
    simp only [hex, val, hex_len]
    rw [hv_hx (by omega), ih, Nat.pow_succ]
    have := Nat.mod_mul (x := n) (a := 16 ^ j) (b := 16)
    rw [this, Nat.mul_comm (16 ^ j)]
    omega
theorem val_hex8 {n : Nat} (h : n < 4294967296) : val (hex 8 n) = n := by
  rw [val_hex, Nat.mod_eq_of_lt (by omega)]
theorem hex8_inj {n m : Nat} (hn : n < 4294967296) (hm : m < 4294967296) (h : hex 8 n = hex 8 m) : n = m := by
  rw [← val_hex8 hn, h, val_hex8 hm]
/-- the digits written one by one from the end -/
theorem hex_step (c j n : Nat) (h : j < c) : (List.replicate (c - j) 0 ++ hex j n).set (c - 1 - j) (hx (n / 16 ^ j % 16)) = List.replicate (c - (j + 1)) 0 ++ hex (j + 1) n := by
  obtain ⟨r, hr⟩ : ∃ r, c = r + j + 1 := ⟨c - j - 1, by omega⟩
  subst hr
  rw [show r + j + 1 - j = r + 1 by omega, show r + j + 1 - 1 - j = r by omega, show r + j + 1 - (j + 1) = r by omega]
  rw [List.replicate_succ', List.append_assoc, List.set_append_right _ _ (by simp)]
  simp [hex]

def tmpL : List Nat := [46, 116, 109, 112]
def segL : List Nat := [115, 101, 103, 45]
def badL : List Nat := [98, 97, 100, 45]
def logL : List Nat := [46, 108, 111, 103]
def hintL : List Nat := [46, 104, 105, 110, 116]
def binL : List Nat := [46, 98, 105, 110]
/-- what stands ahead of a class's numbers, and behind them -/
def ahd (c : Nat) : List Nat := if c = 3 then badL else segL
def atl (c : Nat) : List Nat := if c = 1 then logL else if c = 2 then hintL else binL
/-- a class with numbers -/
def Cl (c : Nat) : Prop := c = 1 ∨ c = 2 ∨ c = 3
/-- a number that names may have -/
def Nu (n : Nat) : Prop := 0 < n ∧ n < 4294967296
def mk (c n : Nat) : List Nat := ahd c ++ (hex 8 n ++ atl c)
theorem ahd_len (c : Nat) : (ahd c).length = 4 := by unfold ahd; split <;> rfl
theorem mk_len {c : Nat} (n : Nat) : (mk c n).length = 12 + (atl c).length := by
  unfold mk; rw [List.length_append, List.length_append, ahd_len, hex_len]; omega
theorem ahd_byt (c : Nat) : Byt (ahd c) := by unfold ahd; split <;> (intro x hx; simp [badL, segL] at hx; omega)
theorem atl_byt (c : Nat) : Byt (atl c) := by
  unfold atl; split
  · intro x hx; simp [logL] at hx; omega
  · split
    · intro x hx; simp [hintL] at hx; omega
    · intro x hx; simp [binL] at hx; omega
theorem tmp_byt : Byt tmpL := by intro x hx; simp [tmpL] at hx; omega
theorem mk_byt (c n : Nat) : Byt (mk c n) := byt_app (ahd_byt c) (byt_app (hex_byt 8 n) (atl_byt c))
theorem mk_inj {c d n m : Nat} (hc : Cl c) (hd : Cl d) (hn : Nu n) (hm : Nu m) (h : mk c n = mk d m) : c = d ∧ n = m := by
  have h1 : ahd c = ahd d := by
    have := congrArg (List.take 4) h
    unfold mk at this
    rwa [List.take_left' (ahd_len c), List.take_left' (ahd_len d)] at this
  have h2 : hex 8 n ++ atl c = hex 8 m ++ atl d := by
    unfold mk at h; rw [h1] at h; exact List.append_cancel_left h
  have h3 : hex 8 n = hex 8 m := by
    have := congrArg (List.take 8) h2
    rwa [List.take_left' (hex_len 8 n), List.take_left' (hex_len 8 m)] at this
  rw [h3] at h2
  have h4 := List.append_cancel_left h2
  refine ⟨?_, hex8_inj hn.2 hm.2 h3⟩
  rcases hc with rfl | rfl | rfl <;> rcases hd with rfl | rfl | rfl <;> simp [ahd, atl, segL, badL, logL, hintL, binL] at h1 h4 ⊢
theorem mk_tmp {c n : Nat} (hc : Cl c) (t : List Nat) : mk c n ≠ t ++ tmpL := by
  intro h
  have h2 := congrArg List.getLast? h
  unfold mk at h2
  rw [← List.append_assoc] at h2
  rcases hc with rfl | rfl | rfl <;> simp [atl, logL, hintL, binL, tmpL, List.getLast?_append] at h2
/-- the number of a name of a class (0: it is none of this class) -/
def numIn (c : Nat) (s : List Nat) : Nat :=
  if s = ahd c ++ ((s.drop 4).take 8 ++ atl c) ∧ ((s.drop 4).take 8).length = 8 ∧ ∀ x ∈ (s.drop 4).take 8, hv x < 16 then val ((s.drop 4).take 8) else 0
theorem mid_mk (c : Nat) (t : List Nat) (h : t.length = 8) : ((ahd c ++ (t ++ atl c)).drop 4).take 8 = t := by
  rw [List.drop_left' (ahd_len c), List.take_left' h]
theorem numIn_mk {c n : Nat} (hn : Nu n) : numIn c (mk c n) = n := by
  unfold numIn
  have e : ((mk c n).drop 4).take 8 = hex 8 n := by unfold mk; exact mid_mk c _ (hex_len 8 n)
  rw [e, if_pos ⟨rfl, hex_len 8 n, hex_good 8 n⟩, val_hex8 hn.2]
theorem numIn_of {c : Nat} {s : List Nat} (h : 0 < numIn c s) : s = mk c (numIn c s) ∧ Nu (numIn c s) := by
  unfold numIn at *
  by_cases h1 : s = ahd c ++ ((s.drop 4).take 8 ++ atl c) ∧ ((s.drop 4).take 8).length = 8 ∧ ∀ x ∈ (s.drop 4).take 8, hv x < 16
  · rw [if_pos h1] at h ⊢
    obtain ⟨a, b, g⟩ := h1
    have hlt := val_lt g
    have hv := hex_val g
    rw [b] at hlt hv
    refine ⟨?_, h, by omega⟩
    unfold mk
    rw [hv]; exact a
  · rw [if_neg h1] at h; omega
theorem numIn_lt (c : Nat) (s : List Nat) : numIn c s < 4294967296 := by
  rcases Nat.eq_zero_or_pos (numIn c s) with h | h
  · omega
  · exact (numIn_of h).2.2
theorem numIn_other {c d n : Nat} (hc : Cl c) (hd : Cl d) (hn : Nu n) (h : c ≠ d) : numIn c (mk d n) = 0 := by
  rcases Nat.eq_zero_or_pos (numIn c (mk d n)) with h1 | h1
  · exact h1
  · obtain ⟨h2, h3⟩ := numIn_of h1
    exact absurd (mk_inj hd hc hn h3 h2).1.symm h
/-- what Parse tells -/
def prs (s : List Nat) : Nat × Nat :=
  if tmpL <:+ s then (4, 0)
  else if 0 < numIn 1 s then (1, numIn 1 s)
  else if 0 < numIn 2 s then (2, numIn 2 s)
  else if 0 < numIn 3 s then (3, numIn 3 s)
  else (0, 0)
theorem prs_mk {c n : Nat} (hc : Cl c) (hn : Nu n) : prs (mk c n) = (c, n) := by
  have ht : ¬ tmpL <:+ mk c n := by rintro ⟨t, h⟩; exact mk_tmp hc t h.symm
  have h0 := hn.1
  unfold prs
  rw [if_neg ht]
  rcases hc with rfl | rfl | rfl
  · rw [numIn_mk hn, if_pos h0]
  · rw [numIn_other (.inl rfl) (.inr (.inl rfl)) hn (by omega), if_neg (by omega), numIn_mk hn, if_pos h0]
  · rw [numIn_other (.inl rfl) (.inr (.inr rfl)) hn (by omega), if_neg (by omega), numIn_other (.inr (.inl rfl)) (.inr (.inr rfl)) hn (by omega), if_neg (by omega), numIn_mk hn, if_pos h0]
theorem prs_tmp (s : List Nat) : prs (s ++ tmpL) = (4, 0) := by unfold prs; rw [if_pos ⟨s, rfl⟩]
theorem prs_cases (s : List Nat) : (prs s = (4, 0) ∧ tmpL <:+ s) ∨ (prs s = (0, 0) ∧ ¬ tmpL <:+ s) ∨ ∃ c n, Cl c ∧ Nu n ∧ prs s = (c, n) ∧ s = mk c n ∧ ¬ tmpL <:+ s := by
  unfold prs
  by_cases h : tmpL <:+ s
  · exact .inl ⟨if_pos h, h⟩
  · rw [if_neg h]
    refine .inr ?_
    by_cases h1 : 0 < numIn 1 s
    · exact .inr ⟨1, _, .inl rfl, (numIn_of h1).2, if_pos h1, (numIn_of h1).1, h⟩
    · rw [if_neg h1]
      by_cases h2 : 0 < numIn 2 s
      · exact .inr ⟨2, _, .inr (.inl rfl), (numIn_of h2).2, if_pos h2, (numIn_of h2).1, h⟩
      · rw [if_neg h2]
        by_cases h3 : 0 < numIn 3 s
        · exact .inr ⟨3, _, .inr (.inr rfl), (numIn_of h3).2, if_pos h3, (numIn_of h3).1, h⟩
        · exact .inl ⟨if_neg h3, h⟩
theorem prs_le (s : List Nat) : (prs s).1 ≤ 4 := by
  rcases prs_cases s with ⟨h, _⟩ | ⟨h, _⟩ | ⟨c, n, hc, _, h, _⟩ <;> rw [h] <;> simp
  rcases hc with rfl | rfl | rfl <;> omega
theorem prs_lt (s : List Nat) : (prs s).2 < 4294967296 := by
  rcases prs_cases s with ⟨h, _⟩ | ⟨h, _⟩ | ⟨c, n, _, hn, h, _⟩ <;> rw [h] <;> simp
  exact hn.2
end Nam
end Go.Proofs.YtngnbkdfbmhndaaGreat
namespace Go.Proofs.YtngnbkdfbmhndaaGreat
namespace Nam
open Go.Shelf
def lays137_ren : Go.Shelf.Ren := ⟨fun | 137 => 148 | 217 => 156 | 266 => 158 | n => n, fun | 9 => 9 | 5 => 5 | 3 => 3 | n => n, fun | n => n⟩
theorem lays137 : Go.Proofs.Lays.n137 Tryz.prog lays137_ren := {
  mixed := by kernel_rfl
  f137 := Tryz.func148.trans (congrArg some (by kernel_rfl))
  f217 := Tryz.func156.trans (congrArg some (by kernel_rfl))
  f266 := Tryz.func158.trans (congrArg some (by kernel_rfl))
  t3 := Tryz.underlying3
  a3 := Tryz.isAgg3
  z3 := Tryz.sizeOf3
  v3 := Tryz.zeroValue3
  t5 := Tryz.underlying5
  a5 := Tryz.isAgg5
  z5 := Tryz.sizeOf5
  v5 := Tryz.zeroValue5
  t9 := Tryz.underlying9
  a9 := Tryz.isAgg9
  z9 := Tryz.sizeOf9
  v9 := Tryz.zeroValue9 }
open Go.RowKit in
theorem strings_IndexByte (s : ByteArray) (c : Int) (w : World) :
    Calls Tryz.prog 148 #[.string s, .int .u8 c] w fun e w' => e = .returned (.int .i64 (Lib.indexByte s.data.toList c.toNat.toUInt8)) ∧ w' = w := Any.strings_IndexByte lays137 s c w
def lays210_ren : Go.Shelf.Ren := ⟨fun | 210 => 146 | 206 => 155 | n => n, fun | 9 => 9 | 4 => 4 | 3 => 3 | n => n, fun | n => n⟩
theorem lays210 : Go.Proofs.Lays.n210 Tryz.prog lays210_ren := {
  mixed := by kernel_rfl
  f206 := Tryz.func155.trans (congrArg some (by kernel_rfl))
  f210 := Tryz.func146.trans (congrArg some (by kernel_rfl))
  t3 := Tryz.underlying3
  a3 := Tryz.isAgg3
  z3 := Tryz.sizeOf3
  v3 := Tryz.zeroValue3
  t4 := Tryz.underlying4
  a4 := Tryz.isAgg4
  z4 := Tryz.sizeOf4
  v4 := Tryz.zeroValue4
  t9 := Tryz.underlying9
  a9 := Tryz.isAgg9
  z9 := Tryz.sizeOf9
  v9 := Tryz.zeroValue9 }
open Go.RowKit in
theorem stringslite_CutPrefix (s p : ByteArray) (w : World) :
    Calls Tryz.prog 146 #[.string s, .string p] w fun e w' => e = .returned (.tuple #[.string ⟨(Lib.trimPrefix s.data.toList p.data.toList).toArray⟩, .bool (Lib.hasPrefix s.data.toList p.data.toList)]) ∧ w' = w := Any.stringslite_CutPrefix lays210 s p w
def lays103_ren : Go.Shelf.Ren := ⟨fun | 103 => 132 | 210 => 146 | 206 => 155 | n => n, fun | 9 => 9 | 4 => 4 | 24 => 204 | 3 => 3 | n => n, fun | n => n⟩
theorem lays103 : Go.Proofs.Lays.n103 Tryz.prog lays103_ren := {
  mixed := by kernel_rfl
  f103 := Tryz.func132.trans (congrArg some (by kernel_rfl))
  f206 := Tryz.func155.trans (congrArg some (by kernel_rfl))
  f210 := Tryz.func146.trans (congrArg some (by kernel_rfl))
  t3 := Tryz.underlying3
  a3 := Tryz.isAgg3
  z3 := Tryz.sizeOf3
  v3 := Tryz.zeroValue3
  t4 := Tryz.underlying4
  a4 := Tryz.isAgg4
  z4 := Tryz.sizeOf4
  v4 := Tryz.zeroValue4
  t9 := Tryz.underlying9
  a9 := Tryz.isAgg9
  z9 := Tryz.sizeOf9
  v9 := Tryz.zeroValue9
  t24 := Tryz.underlying204
  a24 := Tryz.isAgg204
  z24 := Tryz.sizeOf204
  v24 := Tryz.zeroValue204 }
open Go.RowKit in
theorem strings_CutPrefix (s p : ByteArray) (w : World) :
    Calls Tryz.prog 132 #[.string s, .string p] w fun e w' => e = .returned (.tuple #[.string ⟨(Lib.trimPrefix s.data.toList p.data.toList).toArray⟩, .bool (Lib.hasPrefix s.data.toList p.data.toList)]) ∧ w' = w := Any.strings_CutPrefix lays103 s p w
def lays211_ren : Go.Shelf.Ren := ⟨fun | 211 => 147 | 207 => 131 | n => n, fun | 9 => 9 | 4 => 4 | 3 => 3 | n => n, fun | n => n⟩
theorem lays211 : Go.Proofs.Lays.n211 Tryz.prog lays211_ren := {
  mixed := by kernel_rfl
  f207 := Tryz.func131.trans (congrArg some (by kernel_rfl))
  f211 := Tryz.func147.trans (congrArg some (by kernel_rfl))
  t3 := Tryz.underlying3
  a3 := Tryz.isAgg3
  z3 := Tryz.sizeOf3
  v3 := Tryz.zeroValue3
  t4 := Tryz.underlying4
  a4 := Tryz.isAgg4
  z4 := Tryz.sizeOf4
  v4 := Tryz.zeroValue4
  t9 := Tryz.underlying9
  a9 := Tryz.isAgg9
  z9 := Tryz.sizeOf9
  v9 := Tryz.zeroValue9 }
open Go.RowKit in
theorem stringslite_CutSuffix (s p : ByteArray) (w : World) (hs : s.size ≤ 9223372036854775807) :
    Calls Tryz.prog 147 #[.string s, .string p] w fun e w' => e = .returned (.tuple #[.string ⟨(Lib.trimSuffix s.data.toList p.data.toList).toArray⟩, .bool (Lib.hasSuffix s.data.toList p.data.toList)]) ∧ w' = w := Any.stringslite_CutSuffix lays211 s p w hs
def lays104_ren : Go.Shelf.Ren := ⟨fun | 104 => 133 | 211 => 147 | 207 => 131 | n => n, fun | 9 => 9 | 4 => 4 | 24 => 204 | 3 => 3 | n => n, fun | n => n⟩
theorem lays104 : Go.Proofs.Lays.n104 Tryz.prog lays104_ren := {
  mixed := by kernel_rfl
  f104 := Tryz.func133.trans (congrArg some (by kernel_rfl))
  f207 := Tryz.func131.trans (congrArg some (by kernel_rfl))
  f211 := Tryz.func147.trans (congrArg some (by kernel_rfl))
  t3 := Tryz.underlying3
  a3 := Tryz.isAgg3
  z3 := Tryz.sizeOf3
  v3 := Tryz.zeroValue3
  t4 := Tryz.underlying4
  a4 := Tryz.isAgg4
  z4 := Tryz.sizeOf4
  v4 := Tryz.zeroValue4
  t9 := Tryz.underlying9
  a9 := Tryz.isAgg9
  z9 := Tryz.sizeOf9
  v9 := Tryz.zeroValue9
  t24 := Tryz.underlying204
  a24 := Tryz.isAgg204
  z24 := Tryz.sizeOf204
  v24 := Tryz.zeroValue204 }
open Go.RowKit in
theorem strings_CutSuffix (s p : ByteArray) (w : World) (hs : s.size ≤ 9223372036854775807) :
    Calls Tryz.prog 133 #[.string s, .string p] w fun e w' => e = .returned (.tuple #[.string ⟨(Lib.trimSuffix s.data.toList p.data.toList).toArray⟩, .bool (Lib.hasSuffix s.data.toList p.data.toList)]) ∧ w' = w := Any.strings_CutSuffix lays104 s p w hs
def lays217_ren : Go.Shelf.Ren := ⟨fun | 217 => 156 | 266 => 158 | n => n, fun | 9 => 9 | 5 => 5 | 3 => 3 | n => n, fun | n => n⟩
theorem lays217 : Go.Proofs.Lays.n217 Tryz.prog lays217_ren := {
  mixed := by kernel_rfl
  f217 := Tryz.func156.trans (congrArg some (by kernel_rfl))
  f266 := Tryz.func158.trans (congrArg some (by kernel_rfl))
  t3 := Tryz.underlying3
  a3 := Tryz.isAgg3
  z3 := Tryz.sizeOf3
  v3 := Tryz.zeroValue3
  t5 := Tryz.underlying5
  a5 := Tryz.isAgg5
  z5 := Tryz.sizeOf5
  v5 := Tryz.zeroValue5
  t9 := Tryz.underlying9
  a9 := Tryz.isAgg9
  z9 := Tryz.sizeOf9
  v9 := Tryz.zeroValue9 }
open Go.RowKit Go.Lib in
theorem stringslite_IndexByte (s : ByteArray) (c : Int) (w : World) :
    Calls Tryz.prog 156 #[.string s, .int .u8 c] w fun e w' => e = .returned (.int .i64 (Lib.indexByte s.data.toList c.toNat.toUInt8)) ∧ w' = w := Any.stringslite_IndexByte lays217 s c w
def lays206_ren : Go.Shelf.Ren := ⟨fun | 206 => 155 | n => n, fun | 9 => 9 | 4 => 4 | 3 => 3 | n => n, fun | n => n⟩
theorem lays206 : Go.Proofs.Lays.n206 Tryz.prog lays206_ren := {
  mixed := by kernel_rfl
  f206 := Tryz.func155.trans (congrArg some (by kernel_rfl))
  t3 := Tryz.underlying3
  a3 := Tryz.isAgg3
  z3 := Tryz.sizeOf3
  v3 := Tryz.zeroValue3
  t4 := Tryz.underlying4
  a4 := Tryz.isAgg4
  z4 := Tryz.sizeOf4
  v4 := Tryz.zeroValue4
  t9 := Tryz.underlying9
  a9 := Tryz.isAgg9
  z9 := Tryz.sizeOf9
  v9 := Tryz.zeroValue9 }
open Go.RowKit Go.Lib in
theorem stringslite_HasPrefix (s p : ByteArray) (w : World) :
    Calls Tryz.prog 155 #[.string s, .string p] w fun e w' => e = .returned (.bool (Lib.hasPrefix s.data.toList p.data.toList)) ∧ w' = w := Any.stringslite_HasPrefix lays206 s p w
def lays207_ren : Go.Shelf.Ren := ⟨fun | 207 => 131 | n => n, fun | 9 => 9 | 4 => 4 | 3 => 3 | n => n, fun | n => n⟩
theorem lays207 : Go.Proofs.Lays.n207 Tryz.prog lays207_ren := {
  mixed := by kernel_rfl
  f207 := Tryz.func131.trans (congrArg some (by kernel_rfl))
  t3 := Tryz.underlying3
  a3 := Tryz.isAgg3
  z3 := Tryz.sizeOf3
  v3 := Tryz.zeroValue3
  t4 := Tryz.underlying4
  a4 := Tryz.isAgg4
  z4 := Tryz.sizeOf4
  v4 := Tryz.zeroValue4
  t9 := Tryz.underlying9
  a9 := Tryz.isAgg9
  z9 := Tryz.sizeOf9
  v9 := Tryz.zeroValue9 }
open Go.RowKit Go.Lib in
theorem stringslite_HasSuffix (s p : ByteArray) (w : World) (hs : s.size ≤ 9223372036854775807) :
    Calls Tryz.prog 131 #[.string s, .string p] w fun e w' => e = .returned (.bool (Lib.hasSuffix s.data.toList p.data.toList)) ∧ w' = w := Any.stringslite_HasSuffix lays207 s p w hs
def lays100_ren : Go.Shelf.Ren := ⟨fun | 100 => 124 | 207 => 131 | n => n, fun | 9 => 9 | 4 => 4 | 3 => 3 | n => n, fun | n => n⟩
theorem lays100 : Go.Proofs.Lays.n100 Tryz.prog lays100_ren := {
  mixed := by kernel_rfl
  f100 := Tryz.func124.trans (congrArg some (by kernel_rfl))
  f207 := Tryz.func131.trans (congrArg some (by kernel_rfl))
  t3 := Tryz.underlying3
  a3 := Tryz.isAgg3
  z3 := Tryz.sizeOf3
  v3 := Tryz.zeroValue3
  t4 := Tryz.underlying4
  a4 := Tryz.isAgg4
  z4 := Tryz.sizeOf4
  v4 := Tryz.zeroValue4
  t9 := Tryz.underlying9
  a9 := Tryz.isAgg9
  z9 := Tryz.sizeOf9
  v9 := Tryz.zeroValue9 }
open Go.RowKit Go.Lib in
theorem strings_HasSuffix (s p : ByteArray) (w : World) (hs : s.size ≤ 9223372036854775807) :
    Calls Tryz.prog 124 #[.string s, .string p] w fun e w' => e = .returned (.bool (Lib.hasSuffix s.data.toList p.data.toList)) ∧ w' = w := Any.strings_HasSuffix lays100 s p w hs
def lays209_ren : Go.Shelf.Ren := ⟨fun | 209 => 126 | 207 => 131 | n => n, fun | 9 => 9 | 4 => 4 | 3 => 3 | n => n, fun | n => n⟩
theorem lays209 : Go.Proofs.Lays.n209 Tryz.prog lays209_ren := {
  mixed := by kernel_rfl
  f207 := Tryz.func131.trans (congrArg some (by kernel_rfl))
  f209 := Tryz.func126.trans (congrArg some (by kernel_rfl))
  t3 := Tryz.underlying3
  a3 := Tryz.isAgg3
  z3 := Tryz.sizeOf3
  v3 := Tryz.zeroValue3
  t4 := Tryz.underlying4
  a4 := Tryz.isAgg4
  z4 := Tryz.sizeOf4
  v4 := Tryz.zeroValue4
  t9 := Tryz.underlying9
  a9 := Tryz.isAgg9
  z9 := Tryz.sizeOf9
  v9 := Tryz.zeroValue9 }
open Go.RowKit Go.Lib in
theorem stringslite_TrimSuffix (s p : ByteArray) (w : World) (hs : s.size ≤ 9223372036854775807) :
    Calls Tryz.prog 126 #[.string s, .string p] w fun e w' => e = .returned (.string ⟨(Lib.trimSuffix s.data.toList p.data.toList).toArray⟩) ∧ w' = w := Any.stringslite_TrimSuffix lays209 s p w hs
def lays102_ren : Go.Shelf.Ren := ⟨fun | 102 => 106 | 209 => 126 | 207 => 131 | n => n, fun | 9 => 9 | 4 => 4 | 3 => 3 | n => n, fun | n => n⟩
theorem lays102 : Go.Proofs.Lays.n102 Tryz.prog lays102_ren := {
  mixed := by kernel_rfl
  f102 := Tryz.func106.trans (congrArg some (by kernel_rfl))
  f207 := Tryz.func131.trans (congrArg some (by kernel_rfl))
  f209 := Tryz.func126.trans (congrArg some (by kernel_rfl))
  t3 := Tryz.underlying3
  a3 := Tryz.isAgg3
  z3 := Tryz.sizeOf3
  v3 := Tryz.zeroValue3
  t4 := Tryz.underlying4
  a4 := Tryz.isAgg4
  z4 := Tryz.sizeOf4
  v4 := Tryz.zeroValue4
  t9 := Tryz.underlying9
  a9 := Tryz.isAgg9
  z9 := Tryz.sizeOf9
  v9 := Tryz.zeroValue9 }
open Go.RowKit Go.Lib in
theorem strings_TrimSuffix (s p : ByteArray) (w : World) (hs : s.size ≤ 9223372036854775807) :
    Calls Tryz.prog 106 #[.string s, .string p] w fun e w' => e = .returned (.string ⟨(Lib.trimSuffix s.data.toList p.data.toList).toArray⟩) ∧ w' = w := Any.strings_TrimSuffix lays102 s p w hs
end Nam
end Go.Proofs.YtngnbkdfbmhndaaGreat
namespace Go.Proofs.YtngnbkdfbmhndaaGreat
open Go.RowKit
namespace Nam
open Vt
theorem toNat_inj : ∀ a b : UInt8, a.toNat = b.toNat → a = b := fun _ _ h => UInt8.toNat_inj.1 h
theorem bl_def (s : ByteArray) : bl s = s.data.toList.map UInt8.toNat := rfl
theorem map_inj8 {a b : List UInt8} (h : a.map UInt8.toNat = b.map UInt8.toNat) : a = b := List.map_inj_right (fun _ _ h => UInt8.toNat_inj.1 h) |>.1 h
theorem suf_map {a b : List UInt8} : a.map UInt8.toNat <:+ b.map UInt8.toNat ↔ a <:+ b := by
  constructor
  · intro h
    rw [List.suffix_iff_eq_drop, List.length_map, List.length_map, ← List.map_drop] at h
    rw [List.suffix_iff_eq_drop]
    exact map_inj8 h
  · exact fun h => h.map _
theorem pre_map {a b : List UInt8} : a.map UInt8.toNat <+: b.map UInt8.toNat ↔ a <+: b := by
  constructor
  · intro h
    rw [List.prefix_iff_eq_take, List.length_map, ← List.map_take] at h
    rw [List.prefix_iff_eq_take]
    exact map_inj8 h
  · exact fun h => h.map _
theorem has_suf (s p : ByteArray) : Lib.hasSuffix s.data.toList p.data.toList = decide (bl p <:+ bl s) := by
  unfold Lib.hasSuffix
  rw [Bool.eq_iff_iff, List.isSuffixOf_iff_suffix, decide_eq_true_iff, bl_def, bl_def, suf_map]
theorem has_pre (s p : ByteArray) : Lib.hasPrefix s.data.toList p.data.toList = decide (bl p <+: bl s) := by
  unfold Lib.hasPrefix
  rw [Bool.eq_iff_iff, List.isPrefixOf_iff_prefix, decide_eq_true_iff, bl_def, bl_def, pre_map]
theorem bl_mk (l : List UInt8) : bl ⟨l.toArray⟩ = l.map UInt8.toNat := by rw [bl_def]
theorem mk_str (l : List UInt8) : (⟨l.toArray⟩ : ByteArray) = str (l.map UInt8.toNat) := by rw [← bl_mk, str_bl]
/-- what read tells -/
def rd (l : List Nat) : Nat := if l.length = 8 ∧ ∀ x ∈ l, hv x < 16 then val l else 0
set_option maxRecDepth 100000 in
theorem digit_ix (x : Nat) (h : x < 256) : Lib.indexByte [48, 49, 50, 51, 52, 53, 54, 55, 56, 57, 97, 98, 99, 100, 101, 102] (UInt8.ofNat x) = if hv x < 16 then ((hv x : Nat) : Int) else -1 := by
  have : ∀ x : Fin 256, Lib.indexByte [48, 49, 50, 51, 52, 53, 54, 55, 56, 57, 97, 98, 99, 100, 101, 102] (UInt8.ofNat x.val) = if hv x.val < 16 then ((hv x.val : Nat) : Int) else -1 := by decide
  exact this ⟨x, h⟩
theorem bl_get (s : ByteArray) (k : Nat) (h : k < s.size) : (s[k]'h).toNat = (bl s).getD k 0 := by
  rw [List.getD_eq_getElem?_getD, bl_def, List.getElem?_map]
  have : s.data.toList[k]? = some s[k] := by
    rw [Array.getElem?_toList]
    exact Array.getElem?_eq_getElem h
  rw [this]; rfl
set_option maxRecDepth 100000 in
set_option maxHeartbeats 400000 in
theorem read_is (s : ByteArray) (w : World) :
    Calls Tryz.prog 134 #[.string s] w fun e w' => e = .returned (.int .u32 ((rd (bl s) : Nat) : Int)) ∧ w' = w := by
  have HL := hd (bl_len s)
  by_cases h8 : s.size = 8
  · go_enter Tryz.func134, Tryz.ntmps134
    go_wp2_with fail
    go_loop [3, 9] (fun s' i => ∃ k : Nat, k ≤ 8 ∧ i = .int .i64 (k : Int) ∧ s' = .int .u32 ((val ((bl s).take k) : Nat) : Int) ∧ ∀ x ∈ (bl s).take k, hv x < 16) (fun _ i => 8 - (intOf i).toNat)
    case atStart => exact ⟨0, by omega, rfl, rfl, by intro x hx; simp at hx⟩
    case round =>
      obtain ⟨k, hk, rfl, rfl, he⟩ := hrel
      have HE := hd he
      clear he
      by_cases hlt : k < 8
      · have hli : ((k : Nat) : Int) < 8 := by omega
        have hx := getD_lt (bl_byt s) k
        have HX := hd (bl_get s k (by omega))
        have HT := hd (take_succ_getD (l := bl s) (k := k) (by rw [HL.out]; omega))
        obtain ⟨x, hxe⟩ : ∃ x, x = (bl s).getD k 0 := ⟨_, rfl⟩
        rw [← hxe] at hx HX HT
        clear hxe
        have HS := hd (val_snoc ((bl s).take k) x)
        rw [← HT.out] at HS
        have hvl := val_lt HE.out
        rw [List.length_take, show min k (bl s).length = k by rw [HL.out]; omega] at hvl
        have hb8 : val ((bl s).take k) < 268435456 := by
          have : 16 ^ k ≤ 16 ^ 7 := Nat.pow_le_pow_right (by omega) (by omega)
          omega
        clear hvl
        go_wp2_with fail
        refine Calls.mono (strings_IndexByte _ _ _) ?_
        rintro e w' ⟨rfl, rfl⟩
        rw [show ((((s[k]'(by omega)).toNat : Nat) : Int).toNat.toUInt8) = UInt8.ofNat x by rw [Int.toNat_natCast, HX.out]]
        have HI : Hid _ := digit_ix x hx
        by_cases hg : hv x < 16
        · rw [if_pos hg] at HI
          rw [HI.out]
          have HE2 : Hid (∀ y ∈ (bl s).take (k + 1), hv y < 16) := by
            show ∀ y ∈ (bl s).take (k + 1), hv y < 16
            rw [HT.out]
            intro y hy
            rcases List.mem_append.1 hy with hy | hy
            · exact HE.out y hy
            · simp at hy; rw [hy]; exact hg
          generalize val ((bl s).take k) = n at *
          generalize hv x = d at *
          go_wp2_with fail
          go_round
          case rel => exact ⟨k + 1, by omega, by go_num, by rw [HS.out, Int.natCast_add, Int.natCast_mul]; rfl, HE2.out⟩
          case measure => simp [intOf]; omega
        · rw [if_neg hg] at HI
          rw [HI.out]
          have HR : Hid (rd (bl s) = 0) := by
            show rd (bl s) = 0
            unfold rd
            rw [if_neg]
            rintro ⟨_, h2⟩
            refine hg (h2 x ?_)
            have : x ∈ (bl s).take (k + 1) := by rw [HT.out]; simp
            exact List.mem_of_mem_take this
          clear hg
          generalize val ((bl s).take k) = n at *
          go_wp2_with fail
          go_ret
          exact ⟨by rw [HR.out]; rfl, rfl⟩
      · have hli : ¬ ((k : Nat) : Int) < 8 := by omega
        have HR : Hid (rd (bl s) = val ((bl s).take k)) := by
          show rd (bl s) = val ((bl s).take k)
          have HE' := HE.out
          rw [List.take_of_length_le (by rw [HL.out]; omega)] at HE' ⊢
          unfold rd; rw [if_pos ⟨by rw [HL.out, h8], HE'⟩]
        clear hk hlt
        generalize val ((bl s).take k) = n at *
        go_wp2_with fail
        go_ret
        exact ⟨by rw [HR.out]; rfl, rfl⟩
  · have HR : Hid (rd (bl s) = 0) := by
      show rd (bl s) = 0
      unfold rd; rw [if_neg (by rw [HL.out]; omega)]
    go_enter Tryz.func134, Tryz.ntmps134
    go_wp2_with fail
    go_ret
    exact ⟨by rw [HR.out]; rfl, rfl⟩
theorem numIn_split (c : Nat) (t : List Nat) : numIn c (ahd c ++ (t ++ atl c)) = rd t := by
  by_cases h : t.length = 8
  · unfold numIn rd
    rw [mid_mk c t h]
    by_cases h2 : ∀ x ∈ t, hv x < 16
    · rw [if_pos ⟨rfl, h, h2⟩, if_pos ⟨h, h2⟩]
    · rw [if_neg (fun q => h2 q.2.2), if_neg (fun q => h2 q.2)]
  · have e : rd t = 0 := by unfold rd; rw [if_neg (fun q => h q.1)]
    rw [e]
    rcases Nat.eq_zero_or_pos (numIn c (ahd c ++ (t ++ atl c))) with h1 | h1
    · exact h1
    · have h2 := (numIn_of h1).1
      unfold mk at h2
      have h3 := List.append_cancel_right (List.append_cancel_left h2)
      rw [h3, hex_len] at h
      exact absurd rfl h
theorem numIn_none {c : Nat} {s : List Nat} (h : ∀ t, s ≠ ahd c ++ (t ++ atl c)) : numIn c s = 0 := by
  rcases Nat.eq_zero_or_pos (numIn c s) with h1 | h1
  · exact h1
  · exact absurd (numIn_of h1).1 (h _)
theorem sz_bl {s : ByteArray} {l : List Nat} (h : bl s = l) : s.size = l.length := by rw [← bl_len, h]
theorem trim_pre (s p : ByteArray) (r : List Nat) (h : bl s = bl p ++ r) : (⟨(Lib.trimPrefix s.data.toList p.data.toList).toArray⟩ : ByteArray) = str r := by
  have h1 : Lib.hasPrefix s.data.toList p.data.toList = true := by rw [has_pre, decide_eq_true_iff, h]; exact ⟨r, rfl⟩
  unfold Lib.trimPrefix
  rw [h1, if_pos rfl, mk_str, List.map_drop, ← bl_def, h, List.drop_left' (by rw [bl_def, List.length_map])]
theorem trim_suf (s p : ByteArray) (r : List Nat) (h : bl s = r ++ bl p) : (⟨(Lib.trimSuffix s.data.toList p.data.toList).toArray⟩ : ByteArray) = str r := by
  have h1 : Lib.hasSuffix s.data.toList p.data.toList = true := by rw [has_suf, decide_eq_true_iff, h]; exact ⟨r, rfl⟩
  unfold Lib.trimSuffix
  rw [h1, if_pos rfl, mk_str, List.map_take, ← bl_def, h, List.take_left']
  have : s.data.toList.length = (bl s).length := by rw [bl_def, List.length_map]
  rw [this, h, List.length_append, bl_def, List.length_map]
  omega
theorem around_is (c : Nat) (hc : Cl c) (w : World) :
    Calls Tryz.prog 82 #[.int .i64 (c : Int)] w fun e w' => e = .returned (.tuple #[.string (str (ahd c)), .string (str (atl c)), .bool true]) ∧ w' = w := by
  rcases hc with rfl | rfl | rfl
  all_goals
    go_enter Tryz.func82, Tryz.ntmps82
    go_wp2
    go_ret3
    exact ⟨rfl, rfl⟩
theorem around_no (c : Int) (h1 : c ≠ 1) (h2 : c ≠ 2) (h3 : c ≠ 3) (w : World) :
    Calls Tryz.prog 82 #[.int .i64 c] w fun e w' => e = .returned (.tuple #[.string (str []), .string (str []), .bool false]) ∧ w' = w := by
  go_enter Tryz.func82, Tryz.ntmps82
  go_wp2
  go_ret3
  exact ⟨rfl, rfl⟩
theorem app_eq {α : Type} {a b c d : List α} (h : a ++ b = c ++ d) (hl : a.length = c.length) : a = c ∧ b = d := List.append_inj h hl
set_option maxRecDepth 100000 in
set_option maxHeartbeats 400000 in
theorem numberIn_is (s : ByteArray) (c : Nat) (hc : Cl c) (w : World) (hs : s.size ≤ maxLen) :
    Calls Tryz.prog 125 #[.string s, .int .i64 (c : Int)] w fun e w' => e = .returned (.int .u32 ((numIn c (bl s) : Nat) : Int)) ∧ w' = w := by
  have hs0 : s.size ≤ 9223372036854775807 := by unfold maxLen at hs; omega
  go_enter Tryz.func125, Tryz.ntmps125
  go_wp2_with fail
  refine Calls.mono (around_is c hc w) ?_
  rintro e w' ⟨rfl, rfl⟩
  go_wp2_with fail
  refine Calls.mono (strings_CutPrefix _ _ _) ?_
  rintro e w' ⟨rfl, rfl⟩
  rw [has_pre, bl_str (ahd_byt c)]
  by_cases hp : ahd c <+: bl s
  · obtain ⟨r, hr⟩ := hp
    rw [trim_pre s (str (ahd c)) r (by rw [bl_str (ahd_byt c)]; exact hr.symm), decide_eq_true (p := ahd c <+: bl s) ⟨r, hr⟩]
    have hbr : Byt r := by have := byt_drop (bl_byt s) 4; rw [← hr, List.drop_left' (ahd_len c)] at this; exact this
    have hrs : (str r).size ≤ 9223372036854775807 := by
      rw [str_size hbr]
      have := sz_bl hr.symm
      rw [List.length_append] at this
      omega
    go_wp2_with fail
    refine Calls.mono (strings_CutSuffix _ _ _ hrs) ?_
    rintro e w' ⟨rfl, rfl⟩
    rw [has_suf, bl_str (atl_byt c), bl_str hbr]
    by_cases hq : atl c <:+ r
    · obtain ⟨t, ht⟩ := hq
      rw [trim_suf (str r) (str (atl c)) t (by rw [bl_str (atl_byt c), bl_str hbr]; exact ht.symm), decide_eq_true (p := atl c <:+ r) ⟨t, ht⟩]
      have hbt : Byt t := by intro x hx; exact hbr x (by rw [← ht]; exact List.mem_append_left _ hx)
      have HR : Hid (numIn c (bl s) = rd t) := by
        show numIn c (bl s) = rd t
        rw [← hr, ← ht]; exact numIn_split c t
      clear hr ht hbr hrs
      go_wp2_with fail
      refine Calls.mono (read_is _ _) ?_
      rintro e w' ⟨rfl, rfl⟩
      rw [bl_str hbt]
      go_wp2_with fail
      go_ret
      exact ⟨by rw [HR.out]; rfl, rfl⟩
    · rw [decide_eq_false hq]
      have HR : Hid (numIn c (bl s) = 0) := by
        show numIn c (bl s) = 0
        refine numIn_none fun t h => hq ⟨t, ?_⟩
        rw [← hr] at h
        exact (List.append_cancel_left h).symm
      go_wp2_with fail
      go_ret
      exact ⟨by rw [HR.out]; rfl, rfl⟩
  · rw [decide_eq_false hp]
    have HR : Hid (numIn c (bl s) = 0) := by
      show numIn c (bl s) = 0
      exact numIn_none fun t h => hp ⟨_, h.symm⟩
    have hrs : (⟨(Lib.trimPrefix s.data.toList (str (ahd c)).data.toList).toArray⟩ : ByteArray).size ≤ 9223372036854775807 := by
      unfold Lib.trimPrefix
      rw [has_pre, bl_str (ahd_byt c), decide_eq_false hp, if_neg (by simp)]
      exact hs0
    go_wp2_with fail
    refine Calls.mono (strings_CutSuffix _ _ _ hrs) ?_
    rintro e w' ⟨rfl, rfl⟩
    go_wp2_with fail
    go_ret
    exact ⟨by rw [HR.out]; rfl, rfl⟩
end Nam
end Go.Proofs.YtngnbkdfbmhndaaGreat
