/-
  HINT FILES, PLAINLY (3): a fine hint file of which all pointers are checked is the segment's own.
-/
import Derived.Test.YtfnbfgkoicdiaaaHm1
import Derived.Test.YtfnbfgkoicdiaaaHn7
namespace Go.Proofs.Ytfnbfgkoicdiaaa
namespace Vt
theorem kind3 {f : Fr} (h : rf f = 0) (hk : f.kind = 3) : f = hfr f.p := by
  unfold rf at h
  rw [if_neg (by omega), if_pos hk] at h
  exact (rfP_ok h).2.2.2.2.2.2
theorem kind4 {f : Fr} (h : rf f = 0) (hk : f.kind = 4) : f = ffr f.e ∧ onD f.e.bytes := by
  unfold rf at h
  rw [if_neg (by omega), if_neg (by omega), if_pos hk] at h
  exact ⟨(rfE_ok h).2.2.2, (rfE_ok h).2.1⟩
theorem stf_none (fs : List Fr) : stf none fs = none := by
  induction fs with
  | nil => rfl
  | cons f r ih => exact ih
theorem stf_snoc (s : Option St) (fs : List Fr) (f : Fr) : stf s (fs ++ [f]) = (stf s fs).bind fun s => stp s f := by rw [stf_app]; rfl
theorem pch_snoc {ps : List Ptr} {p : Ptr} (h : pch 0 ps) (hp : p.at_ = psum ps) : pch 0 (ps ++ [p]) := (pch_app _ _ 0).2 ⟨h, by rw [Int.zero_add]; exact hp, trivial⟩
theorem snoc_ind {α : Type} {P : List α → Prop} (h0 : P []) (hs : ∀ r f, P r → P (r ++ [f])) : ∀ l, P l := by
  intro l
  have key : ∀ m : List α, P m.reverse := by
    intro m
    induction m with
    | nil => exact h0
    | cons x r ih => rw [List.reverse_cons]; exact hs _ _ ih
  have := key l.reverse
  rwa [List.reverse_reverse] at this
/-- what was read tells what stood there -/
theorem stf_inv : ∀ (fs : List Fr) (_ : ∀ f ∈ fs, rf f = 0) (s : St), stf (some st0) fs = some s → pch 0 s.ps ∧ s.next = psum s.ps ∧ (s.ended = false → fs = s.ps.map hfr) ∧ (s.ended = true → fs = s.ps.map hfr ++ [ffr s.e] ∧ onD s.e.bytes) := by
  refine snoc_ind ?_ ?_
  · intro _ s h
    obtain rfl : st0 = s := Option.some.inj h
    exact ⟨trivial, rfl, fun _ => rfl, fun h => by cases h⟩
  · intro r f ih hf s h
    rw [stf_snoc] at h
    cases hr : stf (some st0) r with
    | none => rw [hr] at h; cases h
    | some t =>
      rw [hr] at h
      obtain ⟨i1, i2, i3, i4⟩ := ih (fun g hg => hf g (List.mem_append_left _ hg)) t hr
      have hrf := hf f (by simp)
      have h : stp t f = some s := h
      unfold stp at h
      by_cases he : t.ended = true
      · rw [if_pos he] at h; cases h
      · have he' : t.ended = false := by simpa using he
        rw [if_neg he] at h
        have hr2 := i3 he'
        by_cases h4 : f.kind = 4
        · rw [if_pos h4] at h
          obtain rfl := Option.some.inj h
          obtain ⟨k1, k2⟩ := kind4 hrf h4
          refine ⟨i1, i2, fun h => (by cases h), fun _ => ⟨?_, k2⟩⟩
          rw [hr2, ← k1]
        · rw [if_neg h4] at h
          by_cases h3 : f.kind = 3 ∧ f.p.at_ = t.next
          · rw [if_pos h3] at h
            obtain rfl := Option.some.inj h
            have k1 := kind3 hrf h3.1
            refine ⟨pch_snoc i1 (by rw [h3.2, i2]), by rw [psum_app, i2]; simp [psum], fun _ => ?_, fun h => ?_⟩
            · rw [hr2, List.map_append, List.map_singleton, ← k1]
            · have h : t.ended = true := h
              exact absurd h he
          · rw [if_neg h3] at h; cases h
open Classical in
theorem ldS_inv {l : List Nat} (hb : Byt l) {s : St} (h : ldS l = some s) : l = file s.ps s.e ∧ pch 0 s.ps ∧ s.e.count = (s.ps.length : Int) ∧ s.e.frames = (s.ps.length : Int) ∧ s.e.bytes = psum s.ps ∧ onD s.e.bytes := by
  unfold ldS at h
  by_cases hc : Cl l
  · rw [if_pos hc, sts_stf] at h
    cases hr : stf (some st0) ((locs 0 l).map fun x => x.2.2) with
    | none => rw [hr] at h; cases h
    | some t =>
      rw [hr] at h
      by_cases hg : good t
      · have h2 : (if good t then some t else none) = some s := h
        rw [if_pos hg] at h2
        obtain rfl := Option.some.inj h2
        obtain ⟨g1, g2, g3, g4⟩ := hg
        obtain ⟨i1, i2, _, i4⟩ := stf_inv _ (fun f hf => by obtain ⟨x, hx, rfl⟩ := List.mem_map.1 hf; exact (locs_mem hb 0 x hx).2.2.2.2.1) t hr
        obtain ⟨j1, j2⟩ := i4 g1
        refine ⟨?_, i1, g2, g3, by rw [g4, i2], j2⟩
        have e := hc.flat hb
        unfold file
        rw [← j1, List.map_map]
        exact e.symm
      · have h2 : (if good t then some t else none) = some s := h
        rw [if_neg hg] at h2
        cases h2
  · rw [if_neg hc] at h; cases h
open Classical in
/-- all pointers are checked: just these frames -/
theorem chk_all {b : List Nat} (hb : Byt b) (ps : List Ptr) : ∀ a : Nat, pch (a : Int) ps → (∀ p ∈ ps, chk b p = true) → (a : Int) + psum ps = (b.length : Int) → (locs a (b.drop a)).map pto = ps ∧ (∀ x ∈ locs a (b.drop a), isRec x.2.2 = true) ∧ a + sml (locs a (b.drop a)) = b.length := by
  induction ps with
  | nil =>
    intro a _ _ hs
    have : a = b.length := by simp [psum] at hs; omega
    subst this
    rw [List.drop_length, locs_nil]
    exact ⟨rfl, by simp, by simp [sml]⟩
  | cons p r ih =>
    intro a ⟨h1, h2⟩ hc hs
    have hcp := hc p List.mem_cons_self
    unfold chk at hcp
    rw [decide_eq_true_eq] at hcp
    obtain ⟨c1, c2, c3⟩ := hcp
    rw [h1] at c1 c2 c3
    have hlt : a < b.length := by
      rcases Nat.lt_or_ge a b.length with h | h
      · exact h
      · unfold decF at c1
        rw [if_pos (.inr (by omega))] at c1
        cases c1
    have hd : decF b (a : Int) = dcd (b.drop a) := by unfold decF; rw [if_neg (by omega), Int.toNat_natCast]
    rw [hd] at c1 c2 c3
    have hok := locs_ok (byt_drop hb a) a c1
    rw [List.drop_drop] at hok
    have hlen : p.len = ((dcd (b.drop a)).2.1 : Int) := by rw [c3]; rfl
    rw [psum_cons, hlen] at hs
    obtain ⟨i1, i2, i3⟩ := ih (a + (dcd (b.drop a)).2.1) (by rw [Int.natCast_add, ← hlen]; exact h2) (fun q hq => hc q (List.mem_cons_of_mem _ hq)) (by rw [Int.natCast_add]; omega)
    rw [hok]
    refine ⟨?_, ?_, ?_⟩
    · rw [List.map_cons, i1, c3]
      rfl
    · intro x hx
      rcases List.mem_cons.1 hx with rfl | hx
      · exact c2
      · exact i2 x hx
    · rw [sml_cons]
      simp only
      omega
/-- a fine hint file, all of it checked, is the segment's own -/
theorem whole {b data : List Nat} (hb : Byt b) (hd : Byt data) {s : St} (hl : ldS data = some s) (h1 : s.e.bytes = (b.length : Int)) (h2 : s.e.frames = ((locs 0 b).length : Int)) (h3 : s.e.sum = Crc.go 0 b) (hc : ∀ p ∈ s.ps, chk b p = true) : May b ∧ hof b = data := by
  obtain ⟨d1, d2, d3, d4, d5, d6⟩ := ldS_inv hd hl
  obtain ⟨k1, k2, k3⟩ := chk_all hb s.ps 0 d2 hc (by rw [← d5, h1]; simp)
  rw [List.drop_zero] at k1 k2 k3
  have hmay : May b := ⟨by have := d6.2; omega, by unfold Cl; omega, k2⟩
  refine ⟨hmay, ?_⟩
  rw [hof_file, d1, k1]
  have : edg b = s.e := by
    have hn : s.ps.length = (locs 0 b).length := by rw [← k1, List.length_map]
    obtain ⟨_, ⟨ec, eb, ef, es⟩, _, _⟩ := s
    simp only at *
    unfold edg
    rw [d3, h1, h2, h3, hn]
  rw [this]
end Vt
end Go.Proofs.Ytfnbfgkoicdiaaa
