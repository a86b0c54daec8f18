/-
  ORDER OF NAMES, plainly: names of one class rise as their numbers do; what stands ahead of what; names in another order. No program here.
-/
import Derived.Test.YtglnhppgoomehabNq0
namespace Go.Proofs.Ytglnhppgoomehab
namespace Nam
open Vt
def u8 (l : List Nat) : U8s := l.map UInt8.ofNat
theorem key_str (l : List Nat) : key (str l) = u8 l := by unfold key u8; rw [str_data]
theorem u8_app (a b : List Nat) : u8 (a ++ b) = u8 a ++ u8 b := by unfold u8; rw [List.map_append]
theorem pre_lt (p : U8s) {x y : U8s} (h : x < y) : p ++ x < p ++ y := by
  induction p with
  | nil => exact h
  | cons a r ih => rw [List.cons_append, List.cons_append, List.cons_lt_cons_iff]; exact .inr ⟨rfl, ih⟩
theorem hx_mono {d e : Nat} (h : d < e) (he : e < 16) : UInt8.ofNat (hx d) < UInt8.ofNat (hx e) := by
  have : ∀ d e : Fin 16, d < e → UInt8.ofNat (hx d.val) < UInt8.ofNat (hx e.val) := by decide
  exact this ⟨d, by omega⟩ ⟨e, he⟩ h
theorem hex_lex (t : U8s) : ∀ (j n m : Nat), n % 16 ^ j < m % 16 ^ j → u8 (hex j n) ++ t < u8 (hex j m) ++ t
  | 0, n, m, h => by simp [Nat.mod_one] at h
  | j + 1, n, m, h => by
    have e1 : n % 16 ^ (j + 1) = n / 16 ^ j % 16 * 16 ^ j + n % 16 ^ j := by rw [Nat.pow_succ, Nat.mod_mul, Nat.mul_comm, Nat.add_comm]
    have e2 : m % 16 ^ (j + 1) = m / 16 ^ j % 16 * 16 ^ j + m % 16 ^ j := by rw [Nat.pow_succ, Nat.mod_mul, Nat.mul_comm, Nat.add_comm]
    rw [e1, e2] at h
    show UInt8.ofNat (hx (n / 16 ^ j % 16)) :: (u8 (hex j n) ++ t) < UInt8.ofNat (hx (m / 16 ^ j % 16)) :: (u8 (hex j m) ++ t)
    rw [List.cons_lt_cons_iff]
    have hn := Nat.mod_lt n (pow16 j)
    rcases Nat.lt_trichotomy (n / 16 ^ j % 16) (m / 16 ^ j % 16) with q | q | q
    · exact .inl (hx_mono q (by omega))
    · refine .inr ⟨by rw [q], hex_lex t j n m ?_⟩
      rw [q] at h; omega
    · have h3 : (m / 16 ^ j % 16 + 1) * 16 ^ j ≤ n / 16 ^ j % 16 * 16 ^ j := Nat.mul_le_mul_right _ q
      rw [Nat.add_mul] at h3
      have := Nat.mod_lt m (pow16 j)
      omega
theorem mk_lt {c n m : Nat} (hn : n < 4294967296) (hm : m < 4294967296) (h : n < m) : key (str (mk c n)) < key (str (mk c m)) := by
  rw [key_str, key_str]
  unfold mk
  rw [u8_app, u8_app, u8_app, u8_app]
  refine pre_lt _ (hex_lex _ 8 n m ?_)
  rw [Nat.mod_eq_of_lt (by omega), Nat.mod_eq_of_lt (by omega)]
  exact h
theorem SL_mk {c n m : Nat} (hn : n < 4294967296) (hm : m < 4294967296) (h : SL (key (str (mk c n))) (key (str (mk c m)))) : n < m := by
  rcases Nat.lt_trichotomy n m with q | q | q
  · exact q
  · subst q; exact absurd rfl h.2
  · exact absurd (mk_lt (c := c) hm hn q) h.1
/-- what is said of two names, one of which stands ahead of the other -/
theorem lt_facts {x y : ByteArray} (h : lt x y) : ((prs (bl y)).1 = 1 → (prs (bl x)).1 = 1 ∧ (prs (bl x)).2 < (prs (bl y)).2) ∧ ((prs (bl x)).1 = (prs (bl y)).1 → (prs (bl x)).2 ≤ (prs (bl y)).2) ∧ ((prs (bl x)).1 = 0 → (prs (bl y)).1 = 0) := by
  have hsame : cls x = cls y → SL (key x) (key y) → ((prs (bl y)).1 = 1 → (prs (bl x)).2 < (prs (bl y)).2) ∧ (prs (bl x)).2 ≤ (prs (bl y)).2 := by
    intro he hs
    unfold cls at he
    rcases prs_cases (bl x) with ⟨h1, _⟩ | ⟨h1, _⟩ | ⟨c, n, hc, hn, h1, h2, _⟩
    · rw [h1] at he ⊢
      exact ⟨fun q => by rw [← he] at q; simp at q, Nat.zero_le _⟩
    · rw [h1] at he ⊢
      exact ⟨fun q => by rw [← he] at q; simp at q, Nat.zero_le _⟩
    · rcases prs_cases (bl y) with ⟨g1, _⟩ | ⟨g1, _⟩ | ⟨d, m, hd, hm, g1, g2, _⟩
      · rw [h1, g1] at he; unfold Cl at hc; simp at he; omega
      · rw [h1, g1] at he; unfold Cl at hc; simp at he; omega
      · rw [h1, g1] at he ⊢
        simp only at he ⊢
        subst he
        rw [← str_bl x, ← str_bl y, h2, g2] at hs
        have := SL_mk hn.2 hm.2 hs
        exact ⟨fun _ => this, by omega⟩
  have hr : rk (cls x) ≤ rk (cls y) := by
    rcases h with h | ⟨h, _⟩
    · omega
    · rw [h]; exact Nat.le_refl _
  have hle1 := prs_le (bl x)
  have hle2 := prs_le (bl y)
  refine ⟨fun hy => ?_, fun he => ?_, fun hx => ?_⟩
  · have hx1 : (prs (bl x)).1 = 1 := by
      unfold rk cls at hr
      rw [hy] at hr
      simp at hr
      split at hr
      · omega
      · omega
    refine ⟨hx1, ?_⟩
    rcases h with h | ⟨h, hs⟩
    · unfold rk cls at h; rw [hx1, hy] at h; simp at h
    · exact (hsame h hs).1 hy
  · rcases h with h | ⟨h, hs⟩
    · unfold rk cls at h; rw [he] at h; omega
    · exact (hsame h hs).2
  · unfold rk cls at hr
    rw [hx] at hr
    simp at hr
    split at hr
    · assumption
    · omega
/-- two places of a list change their names -/
theorem swap_mem {l : List ByteArray} {a b : Nat} (ha : a < l.length) (hb : b < l.length) (y : ByteArray) : y ∈ (l.set a (l.getD b ByteArray.empty)).set b (l.getD a ByteArray.empty) ↔ y ∈ l := by
  have key : ∀ (m : List ByteArray) (y : ByteArray), y ∈ m ↔ ∃ i, i < m.length ∧ m.getD i ByteArray.empty = y := by
    intro m y
    rw [List.mem_iff_getElem]
    constructor
    · rintro ⟨i, hi, e⟩; exact ⟨i, hi, by rw [List.getD_eq_getElem?_getD, List.getElem?_eq_getElem hi]; exact e⟩
    · rintro ⟨i, hi, e⟩; exact ⟨i, hi, by rw [List.getD_eq_getElem?_getD, List.getElem?_eq_getElem hi] at e; exact e⟩
  have gs : ∀ (m : List ByteArray) (i k : Nat) (v : ByteArray), i < m.length → (m.set i v).getD k ByteArray.empty = if k = i then v else m.getD k ByteArray.empty := by
    intro m i k v hi
    rw [List.getD_eq_getElem?_getD, List.getD_eq_getElem?_getD]
    by_cases h : k = i
    · subst h; rw [if_pos rfl, List.getElem?_set_self hi]; rfl
    · rw [if_neg h, List.getElem?_set_ne (by omega)]
  rw [key, key]
  simp only [List.length_set]
  constructor
  · rintro ⟨i, hi, e⟩
    rw [gs _ _ _ _ (by rw [List.length_set]; exact hb), gs _ _ _ _ ha] at e
    split at e
    · exact ⟨a, ha, e⟩
    · split at e
      · exact ⟨b, hb, e⟩
      · exact ⟨i, hi, e⟩
  · rintro ⟨i, hi, e⟩
    by_cases h1 : i = a
    · subst h1
      exact ⟨b, hb, by rw [gs _ _ _ _ (by rw [List.length_set]; exact hb), if_pos rfl]; exact e⟩
    · by_cases h2 : i = b
      · subst h2
        refine ⟨a, ha, ?_⟩
        rw [gs _ _ _ _ (by rw [List.length_set]; exact hb), gs _ _ _ _ ha, if_neg (fun q => h1 q.symm), if_pos rfl]
        exact e
      · refine ⟨i, hi, ?_⟩
        rw [gs _ _ _ _ (by rw [List.length_set]; exact hb), gs _ _ _ _ ha, if_neg h2, if_neg h1]
        exact e
end Nam
end Go.Proofs.Ytglnhppgoomehab
