/-
  THE WALKS OF the laws' awake, pick, sort; of the document's own digits, head, tail, Make.
  WHAT Fresh TELLS, plainly; a slice of strings; the walks of names.owner, takes, slices.Index of bools, Fresh.
-/
import Derived.Test.YtolddolfpnkndaaGreatXual
namespace Go.Proofs.YtolddolfpnkndaaGreat
open Go.RowKit
namespace Nam
open Vt
/-- the class that a raw number speaks of -/
def so (c : Int) : Nat := 1 + (if c < 0 then (-(c + 1)).toNat else c.toNat) % 3
end Nam
end Go.Proofs.YtolddolfpnkndaaGreat
namespace Go.Proofs.YtolddolfpnkndaaGreat
open Go.RowKit
namespace Nam
open Vt
/-- a name without .tmp at its end -/
def trm (l : List Nat) : List Nat := if tmpL <:+ l then l.take (l.length - 4) else l
theorem trm_app (l : List Nat) : trm (l ++ tmpL) = l := by
  unfold trm
  rw [if_pos ⟨l, rfl⟩, List.take_left']
  rw [List.length_append]; simp [tmpL]
/-- the class whose numbers a class has -/
def ow (c : Nat) : Nat := if c = 2 then 1 else c
/-- the number that a new file of the class may not have beside this name (0: any) -/
def tk (c : Nat) (l : List Nat) : Nat := if ow (prs (trm l)).1 = ow c then (prs (trm l)).2 else 0
theorem trm_mk {c n : Nat} (hc : Cl c) : trm (mk c n) = mk c n := by
  unfold trm; rw [if_neg]
  rintro ⟨t, h⟩; exact mk_tmp hc t h.symm
theorem tk_mk {c d n : Nat} (hd : Cl d) (hn : Nu n) (h : ow d = ow c) : tk c (mk d n) = n ∧ tk c (mk d n ++ tmpL) = n := by
  unfold tk
  rw [trm_mk hd, trm_app, prs_mk hd hn, if_pos h]
  exact ⟨rfl, rfl⟩
theorem tk_lt (c : Nat) (l : List Nat) : tk c l < 4294967296 := by
  unfold tk; split
  · exact prs_lt _
  · omega
/-- n is the least number that none takes -/
def FrOk (c : Nat) (ls : List (List Nat)) (n : Nat) : Prop := 1 ≤ n ∧ n ≤ ls.length + 1 ∧ (∀ l ∈ ls, tk c l ≠ n) ∧ ∀ m, 1 ≤ m → m < n → ∃ l ∈ ls, tk c l = m
theorem FrOk.one {c n m : Nat} {ls : List (List Nat)} (h : FrOk c ls n) (g : FrOk c ls m) : n = m := by
  obtain ⟨h1, _, h3, h4⟩ := h
  obtain ⟨g1, _, g3, g4⟩ := g
  rcases Nat.lt_trichotomy n m with q | q | q
  · obtain ⟨l, hl, e⟩ := g4 n h1 q
    exact absurd e (h3 l hl)
  · exact q
  · obtain ⟨l, hl, e⟩ := h4 m g1 q
    exact absurd e (g3 l hl)
/-- with its own name beside, the next one is greater -/
theorem FrOk.next {c n m : Nat} {ls : List (List Nat)} {x : List Nat} (h : FrOk c ls n) (hx : tk c x = n) (g : FrOk c (ls ++ [x]) m) : n < m := by
  obtain ⟨h1, _, h3, h4⟩ := h
  obtain ⟨g1, _, g3, g4⟩ := g
  rcases Nat.lt_trichotomy n m with q | q | q
  · exact q
  · exact absurd (hx.trans q) (g3 x (by simp))
  · obtain ⟨l, hl, e⟩ := h4 m g1 q
    exact absurd e (g3 l (List.mem_append_left _ hl))
/-- so many numbers cannot all be taken -/
theorem pigeon : ∀ (N : Nat) (l : List Nat), (∀ i, i < N → i + 1 ∈ l) → N ≤ l.length
  | 0, _, _ => Nat.zero_le _
  | N + 1, l, h => by
    have h1 := h N (by omega)
    have h2 := pigeon N (l.erase (N + 1)) fun i hi => (List.mem_erase_of_ne (by omega)).2 (h i (by omega))
    rw [List.length_erase_of_mem h1] at h2
    have := List.length_pos_of_mem h1
    omega
/-- what is marked as taken -/
def mrk (c k : Nat) (ls : List (List Nat)) : List Bool := (List.range k).map fun i => decide (∃ l ∈ ls, tk c l = i + 1)
theorem mrk_len (c k : Nat) (ls : List (List Nat)) : (mrk c k ls).length = k := by unfold mrk; simp
theorem mrk_at (c k : Nat) (ls : List (List Nat)) (i : Nat) (h : i < k) : (mrk c k ls).getD i false = decide (∃ l ∈ ls, tk c l = i + 1) := by
  unfold mrk
  rw [List.getD_eq_getElem?_getD, List.getElem?_map, List.getElem?_range h]; rfl
theorem mrk_nil (c k : Nat) : mrk c k [] = List.replicate k false := by
  unfold mrk
  rw [List.eq_replicate_iff]
  refine ⟨by simp, fun b hb => ?_⟩
  obtain ⟨i, _, rfl⟩ := List.mem_map.1 hb
  simp
theorem ext_bool {a b : List Bool} (hl : a.length = b.length) (h : ∀ k, k < a.length → a.getD k false = b.getD k false) : a = b := by
  refine List.ext_getElem hl fun i h1 h2 => ?_
  have := h i h1
  rwa [List.getD_eq_getElem?_getD, List.getD_eq_getElem?_getD, List.getElem?_eq_getElem h1, List.getElem?_eq_getElem h2] at this
theorem getD_set {a : List Bool} {i k : Nat} {b : Bool} (hi : i < a.length) : (a.set i b).getD k false = if k = i then b else a.getD k false := by
  rw [List.getD_eq_getElem?_getD, List.getD_eq_getElem?_getD]
  by_cases h : k = i
  · subst h; rw [if_pos rfl, List.getElem?_set_self hi]; rfl
  · rw [if_neg h, List.getElem?_set_ne (by omega)]
theorem mrk_in (c k : Nat) (ls : List (List Nat)) (x : List Nat) (h1 : 0 < tk c x) (h2 : tk c x ≤ k) : (mrk c k ls).set (tk c x - 1) true = mrk c k (ls ++ [x]) := by
  refine ext_bool (by rw [List.length_set, mrk_len, mrk_len]) fun i hi => ?_
  rw [List.length_set, mrk_len] at hi
  rw [getD_set (by rw [mrk_len]; omega), mrk_at c k _ i hi, mrk_at c k _ i hi]
  by_cases h : i = tk c x - 1
  · rw [if_pos h]
    exact (decide_eq_true ⟨x, by simp, by omega⟩).symm
  · rw [if_neg h]
    refine decide_eq_decide.2 ⟨?_, ?_⟩
    · rintro ⟨l, hl, e⟩; exact ⟨l, List.mem_append_left _ hl, e⟩
    · rintro ⟨l, hl, e⟩
      rcases List.mem_append.1 hl with hl | hl
      · exact ⟨l, hl, e⟩
      · simp at hl; subst hl; omega
theorem mrk_out (c k : Nat) (ls : List (List Nat)) (x : List Nat) (h : tk c x = 0 ∨ k < tk c x) : mrk c k (ls ++ [x]) = mrk c k ls := by
  refine ext_bool (by rw [mrk_len, mrk_len]) fun i hi => ?_
  rw [mrk_len] at hi
  rw [mrk_at c k _ i hi, mrk_at c k _ i hi]
  refine decide_eq_decide.2 ⟨?_, ?_⟩
  · rintro ⟨l, hl, e⟩
    rcases List.mem_append.1 hl with hl | hl
    · exact ⟨l, hl, e⟩
    · simp at hl; subst hl; omega
  · rintro ⟨l, hl, e⟩; exact ⟨l, List.mem_append_left _ hl, e⟩
/-- where the first 'false' stands -/
theorem mrk_first (c : Nat) (ls : List (List Nat)) : ∃ j, j < ls.length + 1 ∧ (mrk c (ls.length + 1) ls).getD j false = false ∧ ∀ i, i < j → (mrk c (ls.length + 1) ls).getD i false = true := by
  rcases Classical.em (∃ j, j < ls.length + 1 ∧ (mrk c (ls.length + 1) ls).getD j false = false) with h | h
  · have key : ∀ j, j < ls.length + 1 → (mrk c (ls.length + 1) ls).getD j false = false → ∃ j, j < ls.length + 1 ∧ (mrk c (ls.length + 1) ls).getD j false = false ∧ ∀ i, i < j → (mrk c (ls.length + 1) ls).getD i false = true := by
      intro j
      induction j using Nat.strongRecOn with
      | _ j ih =>
        intro hj hf
        rcases Classical.em (∃ i, i < j ∧ (mrk c (ls.length + 1) ls).getD i false = false) with g | g
        · obtain ⟨i, hi, g⟩ := g
          exact ih i hi (by omega) g
        · refine ⟨j, hj, hf, fun i hi => ?_⟩
          cases e : (mrk c (ls.length + 1) ls).getD i false with
          | true => rfl
          | false => exact absurd ⟨i, hi, e⟩ g
    obtain ⟨j, hj, hf⟩ := h
    exact key j hj hf
  · have := pigeon (ls.length + 1) (ls.map (tk c)) fun i hi => by
      have hb : (mrk c (ls.length + 1) ls).getD i false = true := by
        cases e : (mrk c (ls.length + 1) ls).getD i false with
        | true => rfl
        | false => exact absurd ⟨i, hi, e⟩ h
      rw [mrk_at c _ _ i hi, decide_eq_true_iff] at hb
      obtain ⟨l, hl, e⟩ := hb
      exact List.mem_map.2 ⟨l, hl, e⟩
    rw [List.length_map] at this
    omega
theorem frok_of {c : Nat} {ls : List (List Nat)} {j : Nat} (hj : j < ls.length + 1) (h1 : (mrk c (ls.length + 1) ls).getD j false = false) (h2 : ∀ i, i < j → (mrk c (ls.length + 1) ls).getD i false = true) : FrOk c ls (j + 1) := by
  refine ⟨by omega, by omega, fun l hl e => ?_, fun m hm1 hm2 => ?_⟩
  · rw [mrk_at c _ _ j hj, decide_eq_false_iff_not] at h1
    exact h1 ⟨l, hl, e⟩
  · have := h2 (m - 1) (by omega)
    rw [mrk_at c _ _ _ (by omega), decide_eq_true_iff, show m - 1 + 1 = m by omega] at this
    exact this

/-- a slice of strings that came in -/
def RowS (w : World) (b off : Nat) (l : List ByteArray) : Prop := ∀ i, i < l.length → w.cell? ⟨b, off + i, none⟩ = some (.string (l.getD i ByteArray.empty))
def IsS (w : World) (v : Value) (l : List ByteArray) : Prop :=
  (∀ s ∈ l, s.size ≤ maxLen) ∧ l.length ≤ maxLen ∧ ((l = [] ∧ ∃ a c, v = .slice a 0 c) ∨ ∃ b off c, v = .slice (some ⟨b, off, none⟩) l.length c ∧ l.length ≤ c ∧ c ≤ maxLen ∧ b < w.heap.size ∧ RowS w b off l)
theorem IsS.shape {w : World} {v : Value} {l : List ByteArray} (h : IsS w v l) : ∃ a c, v = .slice a l.length c := by
  obtain ⟨_, _, ⟨rfl, a, c, rfl⟩ | ⟨b, off, c, rfl, _⟩⟩ := h
  · exact ⟨a, c, rfl⟩
  · exact ⟨_, c, rfl⟩
theorem IsS.below {n : Nat} {w w' : World} {v : Value} {l : List ByteArray} (h : IsS w v l) (hb : Below n w w') (hn : n = w.heap.size) : IsS w' v l := by
  subst hn
  obtain ⟨h1, h2, ⟨rfl, a, c, rfl⟩ | ⟨b, off, c, rfl, h3, h4, h5, h6⟩⟩ := h
  · exact ⟨h1, h2, .inl ⟨rfl, a, c, rfl⟩⟩
  · refine ⟨h1, h2, .inr ⟨b, off, c, rfl, h3, h4, Nat.lt_of_lt_of_le h5 hb.size, fun k hk => ?_⟩⟩
    rw [hb.cell h5]; exact h6 k hk
theorem isS_nil (w : World) (a : Option Addr) (c : Nat) : IsS w (.slice a 0 c) [] := ⟨by intro x hx; simp at hx, by simp, .inl ⟨rfl, _, _, rfl⟩⟩
theorem IsS.at {w : World} {a : Option Addr} {n c k : Nat} {l : List ByteArray} (h : IsS w (.slice a n c) l) (hk : k < l.length) : ∃ b off, a = some ⟨b, off, none⟩ ∧ b < w.heap.size ∧ n = l.length ∧ w.cell? ⟨b, off + k, none⟩ = some (.string (l.getD k ByteArray.empty)) ∧ (l.getD k ByteArray.empty).size ≤ maxLen := by
  obtain ⟨h1, h2, ⟨rfl, a', c', e⟩ | ⟨b', off', c', e, h3, h4, h5, h6⟩⟩ := h
  · simp at hk
  · injection e with e1 e2 e3
    refine ⟨b', off', e1, h5, e2, h6 k hk, h1 _ ?_⟩
    rw [List.getD_eq_getElem?_getD, List.getElem?_eq_getElem hk]
    exact List.getElem_mem hk
theorem take_succ_S {l : List ByteArray} {k : Nat} (h : k < l.length) : l.take (k + 1) = l.take k ++ [l.getD k ByteArray.empty] := by
  rw [List.take_succ_eq_append_getElem h, List.getD_eq_getElem?_getD, List.getElem?_eq_getElem h]; rfl
theorem owner_is (c : Nat) (hc : c ≤ 4) (w : World) : Calls Tryz.prog 104 #[.int .i64 (c : Int)] w fun e w' => e = .returned (.int .i64 ((ow c : Nat) : Int)) ∧ w' = w := by
  have : c = 0 ∨ c = 1 ∨ c = 2 ∨ c = 3 ∨ c = 4 := by omega
  rcases this with rfl | rfl | rfl | rfl | rfl
  all_goals
    go_enter Tryz.func104, Tryz.ntmps104
    go_wp2
    go_ret
    exact ⟨rfl, rfl⟩
theorem ow_le {c : Nat} (h : c ≤ 4) : ow c ≤ 4 := by unfold ow; split <;> omega
theorem trim_is (s : ByteArray) : (⟨(Lib.trimSuffix s.data.toList (⟨#[46, 116, 109, 112]⟩ : ByteArray).data.toList).toArray⟩ : ByteArray) = str (trm (bl s)) := by
  by_cases h : tmpL <:+ bl s
  · obtain ⟨t, ht⟩ := h
    rw [← ht, trm_app]
    exact trim_suf s ⟨#[46, 116, 109, 112]⟩ t ht.symm
  · have h1 : Lib.hasSuffix s.data.toList (⟨#[46, 116, 109, 112]⟩ : ByteArray).data.toList = false := by
      rw [has_suf]; exact decide_eq_false h
    unfold Lib.trimSuffix trm
    rw [h1, if_neg h, if_neg (by simp), mk_str, ← bl_def]
theorem trm_byt {l : List Nat} (h : Byt l) : Byt (trm l) := by
  unfold trm; split
  · exact byt_take h _
  · exact h
theorem trm_len (l : List Nat) : (trm l).length ≤ l.length := by
  unfold trm; split
  · rw [List.length_take]; omega
  · omega
set_option maxRecDepth 100000 in
set_option maxHeartbeats 400000 in
theorem takes_is (s : ByteArray) (c : Nat) (hc : Cl c) (w : World) (hs : s.size ≤ maxLen) :
    Calls Tryz.prog 80 #[.string s, .int .i64 (c : Int)] w fun e w' => e = .returned (.int .u32 ((tk c (bl s) : Nat) : Int)) ∧ w' = w := by
  have hs0 : s.size ≤ 9223372036854775807 := by unfold maxLen at hs; omega
  have hbt := trm_byt (bl_byt s)
  have hsz : (str (trm (bl s))).size ≤ maxLen := by
    rw [str_size hbt]
    have := trm_len (bl s)
    rw [bl_len] at this
    omega
  have HTI := hd (trim_is s)
  go_enter Tryz.func80, Tryz.ntmps80
  go_wp2_with fail
  refine Calls.mono (strings_TrimSuffix _ _ _ hs0) ?_
  rintro e w' ⟨rfl, rfl⟩
  rw [HTI.out]
  go_wp2_with fail
  refine Calls.mono (parse_is _ _ hsz) ?_
  rintro e w' ⟨rfl, rfl⟩
  rw [bl_str hbt]
  have hle := prs_le (trm (bl s))
  have hlt := prs_lt (trm (bl s))
  have HT : Hid (tk c (bl s) = if ow (prs (trm (bl s))).1 = ow c then (prs (trm (bl s))).2 else 0) := rfl
  clear hsz hbt HTI
  generalize prs (trm (bl s)) = x at *
  obtain ⟨x1, x2⟩ := x
  simp only at hle hlt HT
  have HC : Hid (c ≤ 4) := by unfold Cl at hc; show c ≤ 4; omega
  have hl1 := ow_le hle
  have hl2 := ow_le HC.out
  clear hc
  go_wp2_with fail
  refine Calls.mono (owner_is x1 hle _) ?_
  rintro e w' ⟨rfl, rfl⟩
  go_wp2_with fail
  refine Calls.mono (owner_is c HC.out _) ?_
  rintro e w' ⟨rfl, rfl⟩
  by_cases he : ow x1 = ow c
  · rw [if_pos he] at HT
    rw [he]
    clear he
    go_wp2_with fail
    go_ret
    exact ⟨by rw [HT.out]; rfl, rfl⟩
  · rw [if_neg he] at HT
    have hne : (((ow x1 : Nat) : Int) != ((ow c : Nat) : Int)) = true := by simp; omega
    clear he
    go_wp2_with fail
    go_ret
    exact ⟨by rw [HT.out]; rfl, rfl⟩
/-- a row of bools that the call has made -/
def BufB (w : World) (g : Nat) (l : List Bool) : Prop := g < w.heap.size ∧ ∀ j, j < l.length → w.cell? ⟨g, j, none⟩ = some (.bool (l.getD j false)) ∧ w.frozen? ⟨g, j, none⟩ = false
theorem BufB.set {w : World} {g : Nat} {l : List Bool} (h : BufB w g l) {j : Nat} (hj : j < l.length) (b : Bool) : BufB (w.setCell ⟨g, j, none⟩ (.bool b)) g (l.set j b) := by
  obtain ⟨h1, h2⟩ := h
  have hcj := (h2 j hj).1
  refine ⟨?_, fun k hk => ?_⟩
  · have : (w.setCell ⟨g, j, none⟩ (.bool b)).heap.size = w.heap.size := by simp [World.setCell]
    omega
  · rw [List.length_set] at hk
    rw [getD_set hj, World.frozen?_setCell]
    refine ⟨?_, (h2 k hk).2⟩
    by_cases e : k = j
    · subst e
      rw [if_pos rfl, World.cell?_setCell_same _ _ _ hcj]
    · rw [if_neg e, World.cell?_setCell_other _ _ _ _ (by intro he; injection he; omega)]
      exact (h2 k hk).1
theorem index_is (w : World) (g n : Nat) (l : List Bool) (hB : BufB w g l) (hn : n = l.length) (hm : n ≤ maxLen) (j : Nat) (hj : j < l.length) (h1 : l.getD j false = false) (h2 : ∀ i, i < j → l.getD i false = true) :
    Calls Tryz.prog 81 #[.slice (some ⟨g, 0, none⟩) n n, .bool false] w fun e w' => e = .returned (.int .i64 (j : Int)) ∧ w' = w := by
  have HB := hd hB
  have H2 := hd h2
  have H1 := hd h1
  have HN := hd hn
  unfold maxLen at hm
  clear hB h2 hn h1
  go_enter Tryz.func81, Tryz.ntmps81
  go_wp2_with fail
  go_loop [8] (fun i => ∃ k : Nat, k ≤ j ∧ i = .int .i64 (k : Int)) (fun i => n - (intOf i).toNat)
  case atStart => exact ⟨0, by omega, rfl⟩
  case round =>
    obtain ⟨k, hk, rfl⟩ := hrel
    have hkn : k < n := by have := HN.out; omega
    have hc := (HB.out.2 k (by omega)).1
    by_cases hlt : k < j
    · rw [H2.out k hlt] at hc
      go_wp2_with fail
      go_round
      case rel => exact ⟨k + 1, by omega, by go_num⟩
      case measure => simp [intOf]; omega
    · have HK : Hid (k = j) := by show k = j; omega
      rw [HK.out, H1.out] at hc
      rw [← HK.out] at hc
      clear hlt hk hj
      go_wp2_with fail
      go_ret
      exact ⟨by rw [← HK.out]; rfl, rfl⟩
theorem info_bool : (Tryz.prog.info? 4).map (fun i => (i.zero, i.size, i.bytes)) = some (some (.bool false), 1, 1) := by kernel_rfl
theorem madeB (n : Nat) : (madeCells (Value.bool false).cells (n * 1)).toList = List.replicate n (.bool false) := by
  refine List.ext_getElem (by simp [madeCells]) fun i h1 h2 => ?_
  simp [madeCells, Value.cells, Nat.mod_one]
theorem bufB_of_own {w : World} {base g n cap : Nat} (h : w.ownsRow base 4 1 (.slice (some ⟨g, 0, none⟩) n cap) n (List.replicate n (.bool false))) : BufB w g (List.replicate n false) := by
  have hlt := (own_lt h).1
  obtain ⟨h0, ⟨e, _⟩ | ⟨g', cap', cur, e, _, hh, hl, hm, hc, ht⟩⟩ := h
  · simp at e
  · injection e with e1 e2 e3
    injection e1 with e1
    injection e1 with e4 _
    subst e4 e3
    refine ⟨hlt, fun k hk => ?_⟩
    rw [List.length_replicate] at hk
    refine ⟨?_, by simp [World.frozen?, hh]⟩
    have hat : cur[k]? = some (.bool false) := by
      have : (List.replicate n (Value.bool false))[k]? = some (.bool false) := by simp [hk]
      rw [← ht, List.getElem?_take_of_lt (by omega)] at this
      simpa using this
    have e : (List.replicate n false).getD k false = false := by
      rw [List.getD_eq_getElem?_getD]; simp [hk]
    rw [e]
    simp only [World.cell?, hh]
    simpa using hat
set_option maxRecDepth 100000 in
set_option maxHeartbeats 400000 in
theorem fresh_ok (c : Nat) (hc : Cl c) (v : Value) (ss : List ByteArray) (w : World) (hS : IsS w v ss) (hlen : ss.length ≤ 4000000) :
    Calls Tryz.prog 52 #[.int .i64 (c : Int), v] w fun e w' => (∃ n, FrOk c (ss.map bl) n ∧ e = .returned (.tuple #[.int .u32 (n : Int), .int .i64 0])) ∧ Below w.heap.size w w' := by
  obtain ⟨a, cap, rfl⟩ := hS.shape
  have HS := hd hS
  have HC := hd hc
  obtain ⟨i0, hi, hz0, hz1, hz2⟩ := info_parts info_bool
  clear hS hc
  go_enter Tryz.func52, Tryz.ntmps52
  go_wp2_with fail
  refine Calls.mono (around_is c HC.out w) ?_
  rintro e w0 ⟨rfl, rfl⟩
  go_wp2_with (at_make; refine wpList_make_full _ rfl _ _ 157 rfl w0.heap.size 4 i0 (.bool false) 1 Tryz.underlying157 hi hz0 hz1 .i64 .i64 ((ss.length : Int) + 1) ((ss.length : Int) + 1) (ss.length + 1) rfl rfl rfl rfl (by rw [hz2]; omega) (by unfold maxLen; omega) (Nat.le_refl _) ?_; intro w1 hown hgrow)
  have HB1 : Hid (Below w0.heap.size w0 w1) := (Below.refl _ _).grown hgrow (Nat.le_refl _) (fun k hk => by cases hk)
  have HO1 : Hid (BufB w1 w0.heap.size (mrk c (ss.length + 1) [])) := by
    show BufB w1 w0.heap.size (mrk c (ss.length + 1) [])
    rw [mrk_nil]
    rw [madeB] at hown
    exact bufB_of_own hown
  clear hown hgrow hi hz0 hz1 hz2
  go_loopw [27] (fun i wr => ∃ k : Nat, k ≤ ss.length ∧ i = .int .i64 (k : Int) ∧ BufB wr w0.heap.size (mrk c (ss.length + 1) ((ss.take k).map bl)) ∧ Below w0.heap.size w0 wr) (fun i _ => ss.length - (intOf i).toNat)
  case atStart => exact ⟨0, by omega, rfl, HO1.out, HB1.out⟩
  case round =>
    obtain ⟨k, hk, rfl, hO, hB⟩ := hrel
    have HO := hd hO
    have HB := hd hB
    clear hO hB HO1 HB1
    by_cases hlt : k < ss.length
    · have hSr := HS.out.below HB.out rfl
      obtain ⟨b, off, ha, hbl, _, hcell, hsz⟩ := hSr.at hlt
      have HT := hd (congrArg (List.map bl) (take_succ_S hlt))
      rw [List.map_append] at HT
      have HSr := hd hSr
      clear hSr
      have HA := hd ha
      rw [ha]
      clear ha
      generalize ss.getD k ByteArray.empty = s at *
      have hll : (mrk c (ss.length + 1) ((ss.take k).map bl)).length = ss.length + 1 := mrk_len _ _ _
      go_wp2_with fail
      refine Calls.mono (takes_is s c HC.out _ hsz) ?_
      rintro e wr ⟨rfl, rfl⟩
      have htl := tk_lt c (bl s)
      by_cases h0 : tk c (bl s) = 0
      · have HM := hd (mrk_out c (ss.length + 1) ((ss.take k).map bl) (bl s) (.inl h0))
        rw [h0]
        clear h0 htl
        go_wp2_with fail
        go_roundw
        case rel => exact ⟨k + 1, by omega, by go_num, by rw [HT.out]; show BufB _ _ (mrk c _ (_ ++ [bl s])); rw [HM.out]; exact HO.out, HB.out⟩
        case measure => simp [intOf]; omega
      · have hpos : 0 < tk c (bl s) := by omega
        by_cases hle : tk c (bl s) ≤ ss.length + 1
        · have HM := hd (mrk_in c (ss.length + 1) ((ss.take k).map bl) (bl s) hpos hle)
          obtain ⟨hcj, hfj⟩ := HO.out.2 (tk c (bl s) - 1) (by omega)
          have HO2 := hd (HO.out.set (j := tk c (bl s) - 1) (by omega) true)
          rw [HM.out] at HO2
          obtain ⟨t, ht⟩ : ∃ t : Nat, tk c (bl s) = t + 1 := ⟨tk c (bl s) - 1, by omega⟩
          rw [ht, Nat.add_sub_cancel] at hcj hfj HO2
          rw [ht] at hle htl ⊢
          clear h0 hpos HM hll ht
          go_wp2_with fail
          refine ⟨⟨k + 1, by omega, by go_num, by rw [HT.out]; exact HO2.out, HB.out.setCell (Nat.le_refl _) _⟩, by simp [intOf]; omega⟩
        · have HM := hd (mrk_out c (ss.length + 1) ((ss.take k).map bl) (bl s) (.inr (by omega)))
          generalize tk c (bl s) = t at *
          clear h0
          go_wp2_with fail
          go_roundw
          case rel => exact ⟨k + 1, by omega, by go_num, by rw [HT.out]; show BufB _ _ (mrk c _ (_ ++ [bl s])); rw [HM.out]; exact HO.out, HB.out⟩
          case measure => simp [intOf]; omega
    · have hke : ss.take k = ss := List.take_of_length_le (by omega)
      rw [hke] at HO
      have hli : ¬ ((k : Nat) : Int) < (ss.length : Int) := by omega
      clear hke hlt hk
      obtain ⟨j, hj, hj1, hj2⟩ := mrk_first c (ss.map bl)
      rw [List.length_map] at hj hj1 hj2
      have HF : Hid (FrOk c (ss.map bl) (j + 1)) := frok_of (by rw [List.length_map]; exact hj) (by rw [List.length_map]; exact hj1) (by rw [List.length_map]; exact hj2)
      have HIX := hd (index_is wr w0.heap.size (ss.length + 1) _ HO.out (mrk_len _ _ _).symm (by unfold maxLen; omega) j (by rw [mrk_len]; exact hj) hj1 hj2)
      clear hj1 hj2
      go_wp2_with fail
      refine Calls.mono HIX.out ?_
      rintro e wr ⟨rfl, rfl⟩
      go_wp2_with fail
      go_ret2
      exact ⟨⟨j + 1, HF.out, rfl⟩, HB.out⟩
end Nam
end Go.Proofs.YtolddolfpnkndaaGreat
