/-
  BYTES AS A STRING, A STRING'S BYTES. No program here.
  THE PLAIN MATHEMATICS OF FILE NAMES, of lists of bytes: eight digits there and back, what a name of a class is, what Parse tells, and that both go with one another. No program here.
-/
import Derived.Test.YtolddolfpnkndaaGreatXuaa
namespace Go.Proofs.YtolddolfpnkndaaGreat
namespace Vt
/-- bytes as a string -/
def str (l : List Nat) : ByteArray := (l.map fun x => ((x : Nat) : Int)).foldl (fun r n => r.push (UInt8.ofNat n.toNat)) ByteArray.empty
theorem str_data (l : List Nat) : (str l).data = (l.map UInt8.ofNat).toArray := by
  have key : ∀ (l : List Nat) (r : ByteArray), ((l.map fun x => ((x : Nat) : Int)).foldl (fun r n => r.push (UInt8.ofNat n.toNat)) r).data = r.data ++ (l.map UInt8.ofNat).toArray := by
    intro l
    induction l with
    | nil => intro r; simp
    | cons x q ih =>
      intro r
      simp only [List.map_cons, List.foldl_cons, Int.toNat_natCast]
      rw [ih]
      simp [ByteArray.push]
  have := key l ByteArray.empty
  unfold str
  rw [this]; simp
/-- a string's bytes -/
def bl (s : ByteArray) : List Nat := s.data.toList.map UInt8.toNat
theorem bl_len (s : ByteArray) : (bl s).length = s.size := by unfold bl; rw [List.length_map, Array.length_toList]; rfl
theorem bl_byt (s : ByteArray) : Byt (bl s) := by
  intro x hx
  unfold bl at hx
  obtain ⟨y, _, rfl⟩ := List.mem_map.1 hx
  exact y.toNat_lt
theorem bl_str {l : List Nat} (h : Byt l) : bl (str l) = l := by
  unfold bl
  rw [str_data, List.map_map]
  induction l with
  | nil => rfl
  | cons x q ih =>
    have hx := h x List.mem_cons_self
    rw [List.map_cons, ih fun z hz => h z (List.mem_cons_of_mem _ hz)]
    congr 1
    simp only [Function.comp, UInt8.toNat_ofNat']
    omega
theorem str_bl (s : ByteArray) : str (bl s) = s := by
  refine ByteArray.ext ?_
  rw [str_data]
  unfold bl
  rw [List.map_map, show (UInt8.ofNat ∘ UInt8.toNat) = id by funext y; simp]
  simp
theorem bl_inj {s t : ByteArray} (h : bl s = bl t) : s = t := by rw [← str_bl s, h, str_bl]
theorem str_size {l : List Nat} (h : Byt l) : (str l).size = l.length := by rw [← bl_len, bl_str h]
end Vt
end Go.Proofs.YtolddolfpnkndaaGreat
namespace Go.Proofs.YtolddolfpnkndaaGreat
namespace Nam
open Vt
/-- a digit's byte -/
def hx (d : Nat) : Nat := if d < 10 then 48 + d else 87 + d
/-- a byte's digit (16: it is none) -/
def hv (x : Nat) : Nat := if 48 ≤ x ∧ x < 58 then x - 48 else if 97 ≤ x ∧ x < 103 then x - 87 else 16
theorem hv_hx {d : Nat} (h : d < 16) : hv (hx d) = d := by unfold hv hx; split <;> split <;> (try split) <;> omega
theorem hx_hv {x : Nat} (h : hv x < 16) : hx (hv x) = x := by
  unfold hv at *
  by_cases h1 : 48 ≤ x ∧ x < 58
  · rw [if_pos h1]; unfold hx; rw [if_pos (by omega)]; omega
  · rw [if_neg h1] at h ⊢
    by_cases h2 : 97 ≤ x ∧ x < 103
    · rw [if_pos h2]; unfold hx; rw [if_neg (by omega)]; omega
    · rw [if_neg h2] at h; omega
theorem hx_lt {d : Nat} (h : d < 16) : hx d < 256 := by unfold hx; split <;> omega
/-- j digits of a number -/
def hex : Nat → Nat → List Nat
  | 0, _ => []
  | j + 1, n => hx (n / 16 ^ j % 16) :: hex j n
theorem hex_len (j n : Nat) : (hex j n).length = j := by induction j with
  | zero => rfl
  | succ j ih => simp [hex, ih]
theorem hex_byt (j n : Nat) : Byt (hex j n) := by
  induction j with
  | zero => exact byt_nil
  | succ j ih =>
    intro x hx
    rcases List.mem_cons.1 hx with rfl | hx
    · exact hx_lt (by omega)
    · exact ih x hx
theorem hex_good (j n : Nat) : ∀ x ∈ hex j n, hv x < 16 := by
  induction j with
  | zero => intro x hx; simp [hex] at hx
  | succ j ih =>
    intro x hx
    rcases List.mem_cons.1 hx with rfl | hx
    · rw [hv_hx (by omega)]; omega
    · exact ih x hx
/-- the number that digits write -/
def val : List Nat → Nat
  | [] => 0
  | x :: r => hv x * 16 ^ r.length + val r
theorem val_snoc (l : List Nat) (x : Nat) : val (l ++ [x]) = val l * 16 + hv x := by
  induction l with
  | nil => simp [val]
  | cons y r ih =>
    simp only [List.cons_append, val, ih, List.length_append, List.length_singleton, Nat.pow_succ, Nat.add_mul, Nat.mul_assoc]
    omega
theorem pow16 (j : Nat) : 0 < 16 ^ j := Nat.pow_pos (by omega)
theorem val_lt {l : List Nat} (h : ∀ x ∈ l, hv x < 16) : val l < 16 ^ l.length := by
  induction l with
  | nil => simp [val]
  | cons y r ih =>
    have h1 := ih fun x hx => h x (List.mem_cons_of_mem _ hx)
    have h2 := h y List.mem_cons_self
    have h3 : hv y * 16 ^ r.length ≤ 15 * 16 ^ r.length := Nat.mul_le_mul_right _ (by omega)
    simp only [val, List.length_cons, Nat.pow_succ]
    omega
theorem hex_add (j a m : Nat) : hex j (a * 16 ^ j + m) = hex j m := by
  induction j generalizing a with
  | zero => rfl
  | succ j ih =>
    have e : a * 16 ^ (j + 1) + m = a * 16 * 16 ^ j + m := by rw [Nat.pow_succ, Nat.mul_comm (16 ^ j), ← Nat.mul_assoc]
    rw [e]
    simp only [hex]
    rw [ih]
    congr 2
    rw [Nat.add_comm, Nat.add_mul_div_right _ _ (pow16 j)]
    omega
theorem hex_val {l : List Nat} (h : ∀ x ∈ l, hv x < 16) : hex l.length (val l) = l := by
  induction l with
  | nil => rfl
  | cons y r ih =>
    have h0 : ∀ x ∈ r, hv x < 16 := fun x hx => h x (List.mem_cons_of_mem _ hx)
    have h1 := val_lt h0
    have h2 := h y List.mem_cons_self
    simp only [List.length_cons, hex, val]
    rw [hex_add, ih h0, Nat.add_comm (hv y * _), Nat.add_mul_div_right _ _ (pow16 _), Nat.div_eq_of_lt h1, Nat.zero_add, Nat.mod_eq_of_lt h2, hx_hv h2]
theorem val_hex (j n : Nat) : val (hex j n) = n % 16 ^ j := by
  induction j with
  | zero => simp [hex, val, Nat.mod_one]
  | succ j ih =>
    simp only [hex, val, hex_len]
    rw [hv_hx (by omega), ih, Nat.pow_succ]
    have := Nat.mod_mul (x := n) (a := 16 ^ j) (b := 16)
    rw [this, Nat.mul_comm (16 ^ j)]
    omega
theorem val_hex8 {n : Nat} (h : n < 4294967296) : val (hex 8 n) = n := by
  rw [val_hex, Nat.mod_eq_of_lt (by omega)]
theorem hex8_inj {n m : Nat} (hn : n < 4294967296) (hm : m < 4294967296) (h : hex 8 n = hex 8 m) : n = m := by
  rw [← val_hex8 hn, h, val_hex8 hm]
/-- the digits written one by one from the end -/
theorem hex_step (c j n : Nat) (h : j < c) : (List.replicate (c - j) 0 ++ hex j n).set (c - 1 - j) (hx (n / 16 ^ j % 16)) = List.replicate (c - (j + 1)) 0 ++ hex (j + 1) n := by
  obtain ⟨r, hr⟩ : ∃ r, c = r + j + 1 := ⟨c - j - 1, by omega⟩
  subst hr
  rw [show r + j + 1 - j = r + 1 by omega, show r + j + 1 - 1 - j = r by omega, show r + j + 1 - (j + 1) = r by omega]
  rw [List.replicate_succ', List.append_assoc, List.set_append_right _ _ (by simp)]
  simp [hex]

def tmpL : List Nat := [46, 116, 109, 112]
def segL : List Nat := [115, 101, 103, 45]
def badL : List Nat := [98, 97, 100, 45]
def logL : List Nat := [46, 108, 111, 103]
def hintL : List Nat := [46, 104, 105, 110, 116]
def binL : List Nat := [46, 98, 105, 110]
/-- what stands ahead of a class's numbers, and behind them -/
def ahd (c : Nat) : List Nat := if c = 3 then badL else segL
def atl (c : Nat) : List Nat := if c = 1 then logL else if c = 2 then hintL else binL
/-- a class with numbers -/
def Cl (c : Nat) : Prop := c = 1 ∨ c = 2 ∨ c = 3
/-- a number that names may have -/
def Nu (n : Nat) : Prop := 0 < n ∧ n < 4294967296
def mk (c n : Nat) : List Nat := ahd c ++ (hex 8 n ++ atl c)
theorem ahd_len (c : Nat) : (ahd c).length = 4 := by unfold ahd; split <;> rfl
theorem mk_len {c : Nat} (n : Nat) : (mk c n).length = 12 + (atl c).length := by
  unfold mk; rw [List.length_append, List.length_append, ahd_len, hex_len]; omega
theorem ahd_byt (c : Nat) : Byt (ahd c) := by unfold ahd; split <;> (intro x hx; simp [badL, segL] at hx; omega)
theorem atl_byt (c : Nat) : Byt (atl c) := by
  unfold atl; split
  · intro x hx; simp [logL] at hx; omega
  · split
    · intro x hx; simp [hintL] at hx; omega
    · intro x hx; simp [binL] at hx; omega
theorem mk_byt (c n : Nat) : Byt (mk c n) := byt_app (ahd_byt c) (byt_app (hex_byt 8 n) (atl_byt c))
theorem mk_inj {c d n m : Nat} (hc : Cl c) (hd : Cl d) (hn : Nu n) (hm : Nu m) (h : mk c n = mk d m) : c = d ∧ n = m := by
  have h1 : ahd c = ahd d := by
    have := congrArg (List.take 4) h
    unfold mk at this
    rwa [List.take_left' (ahd_len c), List.take_left' (ahd_len d)] at this
  have h2 : hex 8 n ++ atl c = hex 8 m ++ atl d := by
    unfold mk at h; rw [h1] at h; exact List.append_cancel_left h
  have h3 : hex 8 n = hex 8 m := by
    have := congrArg (List.take 8) h2
    rwa [List.take_left' (hex_len 8 n), List.take_left' (hex_len 8 m)] at this
  rw [h3] at h2
  have h4 := List.append_cancel_left h2
  refine ⟨?_, hex8_inj hn.2 hm.2 h3⟩
  rcases hc with rfl | rfl | rfl <;> rcases hd with rfl | rfl | rfl <;> simp [ahd, atl, segL, badL, logL, hintL, binL] at h1 h4 ⊢
theorem mk_tmp {c n : Nat} (hc : Cl c) (t : List Nat) : mk c n ≠ t ++ tmpL := by
  intro h
  have h2 := congrArg List.getLast? h
  unfold mk at h2
  rw [← List.append_assoc] at h2
  rcases hc with rfl | rfl | rfl <;> simp [atl, logL, hintL, binL, tmpL, List.getLast?_append] at h2
/-- the number of a name of a class (0: it is none of this class) -/
def numIn (c : Nat) (s : List Nat) : Nat :=
  if s = ahd c ++ ((s.drop 4).take 8 ++ atl c) ∧ ((s.drop 4).take 8).length = 8 ∧ ∀ x ∈ (s.drop 4).take 8, hv x < 16 then val ((s.drop 4).take 8) else 0
theorem mid_mk (c : Nat) (t : List Nat) (h : t.length = 8) : ((ahd c ++ (t ++ atl c)).drop 4).take 8 = t := by
  rw [List.drop_left' (ahd_len c), List.take_left' h]
theorem numIn_mk {c n : Nat} (hn : Nu n) : numIn c (mk c n) = n := by
  unfold numIn
  have e : ((mk c n).drop 4).take 8 = hex 8 n := by unfold mk; exact mid_mk c _ (hex_len 8 n)
  rw [e, if_pos ⟨rfl, hex_len 8 n, hex_good 8 n⟩, val_hex8 hn.2]
theorem numIn_of {c : Nat} {s : List Nat} (h : 0 < numIn c s) : s = mk c (numIn c s) ∧ Nu (numIn c s) := by
  unfold numIn at *
  by_cases h1 : s = ahd c ++ ((s.drop 4).take 8 ++ atl c) ∧ ((s.drop 4).take 8).length = 8 ∧ ∀ x ∈ (s.drop 4).take 8, hv x < 16
  · rw [if_pos h1] at h ⊢
    obtain ⟨a, b, g⟩ := h1
    have hlt := val_lt g
    have hv := hex_val g
    rw [b] at hlt hv
    refine ⟨?_, h, by omega⟩
    unfold mk
    rw [hv]; exact a
  · rw [if_neg h1] at h; omega
theorem numIn_lt (c : Nat) (s : List Nat) : numIn c s < 4294967296 := by
  rcases Nat.eq_zero_or_pos (numIn c s) with h | h
  · omega
  · exact (numIn_of h).2.2
theorem numIn_other {c d n : Nat} (hc : Cl c) (hd : Cl d) (hn : Nu n) (h : c ≠ d) : numIn c (mk d n) = 0 := by
  rcases Nat.eq_zero_or_pos (numIn c (mk d n)) with h1 | h1
  · exact h1
  · obtain ⟨h2, h3⟩ := numIn_of h1
    exact absurd (mk_inj hd hc hn h3 h2).1.symm h
/-- what Parse tells -/
def prs (s : List Nat) : Nat × Nat :=
  if tmpL <:+ s then (4, 0)
  else if 0 < numIn 1 s then (1, numIn 1 s)
  else if 0 < numIn 2 s then (2, numIn 2 s)
  else if 0 < numIn 3 s then (3, numIn 3 s)
  else (0, 0)
theorem prs_mk {c n : Nat} (hc : Cl c) (hn : Nu n) : prs (mk c n) = (c, n) := by
  have ht : ¬ tmpL <:+ mk c n := by rintro ⟨t, h⟩; exact mk_tmp hc t h.symm
  have h0 := hn.1
  unfold prs
  rw [if_neg ht]
  rcases hc with rfl | rfl | rfl
  · rw [numIn_mk hn, if_pos h0]
  · rw [numIn_other (.inl rfl) (.inr (.inl rfl)) hn (by omega), if_neg (by omega), numIn_mk hn, if_pos h0]
  · rw [numIn_other (.inl rfl) (.inr (.inr rfl)) hn (by omega), if_neg (by omega), numIn_other (.inr (.inl rfl)) (.inr (.inr rfl)) hn (by omega), if_neg (by omega), numIn_mk hn, if_pos h0]
theorem prs_cases (s : List Nat) : (prs s = (4, 0) ∧ tmpL <:+ s) ∨ (prs s = (0, 0) ∧ ¬ tmpL <:+ s) ∨ ∃ c n, Cl c ∧ Nu n ∧ prs s = (c, n) ∧ s = mk c n ∧ ¬ tmpL <:+ s := by
  unfold prs
  by_cases h : tmpL <:+ s
  · exact .inl ⟨if_pos h, h⟩
  · rw [if_neg h]
    refine .inr ?_
    by_cases h1 : 0 < numIn 1 s
    · exact .inr ⟨1, _, .inl rfl, (numIn_of h1).2, if_pos h1, (numIn_of h1).1, h⟩
    · rw [if_neg h1]
      by_cases h2 : 0 < numIn 2 s
      · exact .inr ⟨2, _, .inr (.inl rfl), (numIn_of h2).2, if_pos h2, (numIn_of h2).1, h⟩
      · rw [if_neg h2]
        by_cases h3 : 0 < numIn 3 s
        · exact .inr ⟨3, _, .inr (.inr rfl), (numIn_of h3).2, if_pos h3, (numIn_of h3).1, h⟩
        · exact .inl ⟨if_neg h3, h⟩
theorem prs_le (s : List Nat) : (prs s).1 ≤ 4 := by
  rcases prs_cases s with ⟨h, _⟩ | ⟨h, _⟩ | ⟨c, n, hc, _, h, _⟩ <;> rw [h] <;> simp
  rcases hc with rfl | rfl | rfl <;> omega
theorem prs_lt (s : List Nat) : (prs s).2 < 4294967296 := by
  rcases prs_cases s with ⟨h, _⟩ | ⟨h, _⟩ | ⟨c, n, _, hn, h, _⟩ <;> rw [h] <;> simp
  exact hn.2
end Nam
end Go.Proofs.YtolddolfpnkndaaGreat
