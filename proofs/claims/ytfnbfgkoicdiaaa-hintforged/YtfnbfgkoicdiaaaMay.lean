/-
  HINT FILES, PLAINLY (3): a fine hint file of which all pointers are checked is the segment's own.
  THE WALK OF the law's 'same' (are two lists of bytes the same?).
  HintWhole's walk.
-/
import Derived.Test.YtfnbfgkoicdiaaaMaw
import Derived.Test.YtfnbfgkoicdiaaaMau
import Derived.Test.YtfnbfgkoicdiaaaMae
import Derived.Test.YtfnbfgkoicdiaaaMax
namespace Go.Proofs.Ytfnbfgkoicdiaaa
namespace Vt
theorem kind3 {f : Fr} (h : rf f = 0) (hk : f.kind = 3) : f = hfr f.p := by
  unfold rf at h
  rw [if_neg (by omega), if_pos hk] at h
  exact (rfP_ok h).2.2.2.2.2.2
theorem kind4 {f : Fr} (h : rf f = 0) (hk : f.kind = 4) : f = ffr f.e ∧ onD f.e.bytes := by
  unfold rf at h
  rw [if_neg (by omega), if_neg (by omega), if_pos hk] at h
  exact ⟨(rfE_ok h).2.2.2, (rfE_ok h).2.1⟩
theorem stf_none (fs : List Fr) : stf none fs = none := by
  induction fs with
  | nil => rfl
  | cons f r ih => exact ih
theorem stf_snoc (s : Option St) (fs : List Fr) (f : Fr) : stf s (fs ++ [f]) = (stf s fs).bind fun s => stp s f := by rw [stf_app]; rfl
theorem pch_snoc {ps : List Ptr} {p : Ptr} (h : pch 0 ps) (hp : p.at_ = psum ps) : pch 0 (ps ++ [p]) := (pch_app _ _ 0).2 ⟨h, by rw [Int.zero_add]; exact hp, trivial⟩
theorem snoc_ind {α : Type} {P : List α → Prop} (h0 : P []) (hs : ∀ r f, P r → P (r ++ [f])) : ∀ l, P l := by
  intro l
  have key : ∀ m : List α, P m.reverse := by
    intro m
    induction m with
    | nil => exact h0
    | cons x r ih => rw [List.reverse_cons]; exact hs _ _ ih
  have := key l.reverse
  rwa [List.reverse_reverse] at this
/-- what was read tells what stood there -/
theorem stf_inv : ∀ (fs : List Fr) (_ : ∀ f ∈ fs, rf f = 0) (s : St), stf (some st0) fs = some s → pch 0 s.ps ∧ s.next = psum s.ps ∧ (s.ended = false → fs = s.ps.map hfr) ∧ (s.ended = true → fs = s.ps.map hfr ++ [ffr s.e] ∧ onD s.e.bytes) := by
  refine snoc_ind ?_ ?_
  · intro _ s h
    obtain rfl : st0 = s := Option.some.inj h
    exact ⟨trivial, rfl, fun _ => rfl, fun h => by cases h⟩
  · intro r f ih hf s h
    rw [stf_snoc] at h
    cases hr : stf (some st0) r with
    | none => rw [hr] at h; cases h
    | some t =>
      rw [hr] at h
      obtain ⟨i1, i2, i3, i4⟩ := ih (fun g hg => hf g (List.mem_append_left _ hg)) t hr
      have hrf := hf f (by simp)
      have h : stp t f = some s := h
      unfold stp at h
      by_cases he : t.ended = true
      · rw [if_pos he] at h; cases h
      · have he' : t.ended = false := by simpa using he
        rw [if_neg he] at h
        have hr2 := i3 he'
        by_cases h4 : f.kind = 4
        · rw [if_pos h4] at h
          obtain rfl := Option.some.inj h
          obtain ⟨k1, k2⟩ := kind4 hrf h4
          refine ⟨i1, i2, fun h => (by cases h), fun _ => ⟨?_, k2⟩⟩
          rw [hr2, ← k1]
        · rw [if_neg h4] at h
          by_cases h3 : f.kind = 3 ∧ f.p.at_ = t.next
          · rw [if_pos h3] at h
            obtain rfl := Option.some.inj h
            have k1 := kind3 hrf h3.1
            refine ⟨pch_snoc i1 (by rw [h3.2, i2]), by rw [psum_app, i2]; simp [psum], fun _ => ?_, fun h => ?_⟩
            · rw [hr2, List.map_append, List.map_singleton, ← k1]
            · have h : t.ended = true := h
              exact absurd h he
          · rw [if_neg h3] at h; cases h
open Classical in
theorem ldS_inv {l : List Nat} (hb : Byt l) {s : St} (h : ldS l = some s) : l = file s.ps s.e ∧ pch 0 s.ps ∧ s.e.count = (s.ps.length : Int) ∧ s.e.frames = (s.ps.length : Int) ∧ s.e.bytes = psum s.ps ∧ onD s.e.bytes := by
  unfold ldS at h
  by_cases hc : Cl l
  · rw [if_pos hc, sts_stf] at h
    cases hr : stf (some st0) ((locs 0 l).map fun x => x.2.2) with
    | none => rw [hr] at h; cases h
    | some t =>
      rw [hr] at h
      by_cases hg : good t
      · have h2 : (if good t then some t else none) = some s := h
        rw [if_pos hg] at h2
        obtain rfl := Option.some.inj h2
        obtain ⟨g1, g2, g3, g4⟩ := hg
        obtain ⟨i1, i2, _, i4⟩ := stf_inv _ (fun f hf => by obtain ⟨x, hx, rfl⟩ := List.mem_map.1 hf; exact (locs_mem hb 0 x hx).2.2.2.2.1) t hr
        obtain ⟨j1, j2⟩ := i4 g1
        refine ⟨?_, i1, g2, g3, by rw [g4, i2], j2⟩
        have e := hc.flat hb
        unfold file
        rw [← j1, List.map_map]
        exact e.symm
      · have h2 : (if good t then some t else none) = some s := h
        rw [if_neg hg] at h2
        cases h2
  · rw [if_neg hc] at h; cases h
open Classical in
/-- all pointers are checked: just these frames -/
theorem chk_all {b : List Nat} (hb : Byt b) (ps : List Ptr) : ∀ a : Nat, pch (a : Int) ps → (∀ p ∈ ps, chk b p = true) → (a : Int) + psum ps = (b.length : Int) → (locs a (b.drop a)).map pto = ps ∧ (∀ x ∈ locs a (b.drop a), isRec x.2.2 = true) ∧ a + sml (locs a (b.drop a)) = b.length := by
  induction ps with
  | nil =>
    intro a _ _ hs
    have : a = b.length := by simp [psum] at hs; omega
    subst this
    rw [List.drop_length, locs_nil]
    exact ⟨rfl, by simp, by simp [sml]⟩
  | cons p r ih =>
    intro a ⟨h1, h2⟩ hc hs
    have hcp := hc p List.mem_cons_self
    unfold chk at hcp
    rw [decide_eq_true_eq] at hcp
    obtain ⟨c1, c2, c3⟩ := hcp
    rw [h1] at c1 c2 c3
    have hlt : a < b.length := by
      rcases Nat.lt_or_ge a b.length with h | h
      · exact h
      · unfold decF at c1
        rw [if_pos (.inr (by omega))] at c1
        cases c1
    have hd : decF b (a : Int) = dcd (b.drop a) := by unfold decF; rw [if_neg (by omega), Int.toNat_natCast]
    rw [hd] at c1 c2 c3
    have hok := locs_ok (byt_drop hb a) a c1
    rw [List.drop_drop] at hok
    have hlen : p.len = ((dcd (b.drop a)).2.1 : Int) := by rw [c3]; rfl
    rw [psum_cons, hlen] at hs
    obtain ⟨i1, i2, i3⟩ := ih (a + (dcd (b.drop a)).2.1) (by rw [Int.natCast_add, ← hlen]; exact h2) (fun q hq => hc q (List.mem_cons_of_mem _ hq)) (by rw [Int.natCast_add]; omega)
    rw [hok]
    refine ⟨?_, ?_, ?_⟩
    · rw [List.map_cons, i1, c3]
      rfl
    · intro x hx
      rcases List.mem_cons.1 hx with rfl | hx
      · exact c2
      · exact i2 x hx
    · rw [sml_cons]
      simp only
      omega
/-- a fine hint file, all of it checked, is the segment's own -/
theorem whole {b data : List Nat} (hb : Byt b) (hd : Byt data) {s : St} (hl : ldS data = some s) (h1 : s.e.bytes = (b.length : Int)) (h2 : s.e.frames = ((locs 0 b).length : Int)) (h3 : s.e.sum = Crc.go 0 b) (hc : ∀ p ∈ s.ps, chk b p = true) : May b ∧ hof b = data := by
  obtain ⟨d1, d2, d3, d4, d5, d6⟩ := ldS_inv hd hl
  obtain ⟨k1, k2, k3⟩ := chk_all hb s.ps 0 d2 hc (by rw [← d5, h1]; simp)
  rw [List.drop_zero] at k1 k2 k3
  have hmay : May b := ⟨by have := d6.2; omega, by unfold Cl; omega, k2⟩
  refine ⟨hmay, ?_⟩
  rw [hof_file, d1, k1]
  have : edg b = s.e := by
    have hn : s.ps.length = (locs 0 b).length := by rw [← k1, List.length_map]
    obtain ⟨_, ⟨ec, eb, ef, es⟩, _, _⟩ := s
    simp only at *
    unfold edg
    rw [d3, h1, h2, h3, hn]
  rw [this]
end Vt
end Go.Proofs.Ytfnbfgkoicdiaaa
namespace Go.Proofs.Ytfnbfgkoicdiaaa
open Go.RowKit
namespace Vt
set_option maxRecDepth 100000 in
set_option maxHeartbeats 400000 in
theorem hsame_row (ba oa ca bb ob cb : Nat) (la lb : List Nat) (w : World) (hl : la.length = lb.length) (hA : Row w ba oa la) (hB : Row w bb ob lb) (hm : la.length ≤ maxLen) :
    Calls Try.prog 18 #[.slice (some ⟨ba, oa, none⟩) la.length ca, .slice (some ⟨bb, ob, none⟩) la.length cb] w fun e w' => e = .returned (.bool (decide (la = lb))) ∧ ∃ n, w' = w.drewN n := by
  unfold maxLen at hm
  have HA := hd hA
  have HB := hd hB
  have HL := hd hl
  clear hA hB hl
  go_enter Try.func18, Try.ntmps18
  go_wp2
  go_loopw [4, 5] (fun o i wr => ∃ k n : Nat, k ≤ la.length ∧ o = .bool false ∧ i = .int .i64 (k : Int) ∧ wr = w.drewN n ∧ ∀ j, j < k → la.getD j 0 = lb.getD j 0) (fun _ i _ => la.length - (intOf i).toNat)
  case atStart => exact ⟨0, 0, by omega, rfl, rfl, rfl, by intro j hj; omega⟩
  case round =>
    obtain ⟨k, n, hk, rfl, rfl, rfl, he⟩ := hrel
    have HE := hd he
    clear he
    by_cases hlt : k < la.length
    · have ha := HA.out k hlt
      have hb := HB.out k (by rw [← HL.out]; exact hlt)
      by_cases hq : la.getD k 0 = lb.getD k 0
      · have HE2 : Hid (∀ j, j < k + 1 → la.getD j 0 = lb.getD j 0) := by
          intro j hj
          rcases Nat.lt_or_ge j k with h | h
          · exact HE.out j h
          · rw [show j = k by omega]; exact hq
        rw [← hq] at hb
        generalize la.getD k 0 = p at ha hb
        clear hq
        go_wp2
        go_quiet (fail)
        go_wp2
        go_roundw
        case rel => exact ⟨k + 1, _, by omega, rfl, by go_num, rfl, HE2.out⟩
        case measure => simp [intOf]; omega
      · have HNE : Hid (decide (la = lb) = false) := by
          show decide (la = lb) = false
          rw [decide_eq_false_iff_not]; intro e; rw [e] at hq; exact hq rfl
        generalize la.getD k 0 = p at ha hq
        generalize lb.getD k 0 = q at hb hq
        have hpq : ((p : Int) != (q : Int)) = true := by simp; omega
        go_wp2
        go_quiet (fail)
        go_wp2
        go_ret
        exact ⟨by rw [HNE.out]; rfl, drewN2 _ _ _⟩
    · obtain rfl : k = la.length := by omega
      have hy : decide (la = lb) = true := by rw [decide_eq_true_iff]; exact ext_getD HL.out HE.out
      have HY := hd hy
      clear hy
      go_wp2
      go_ret
      exact ⟨by rw [HY.out]; rfl, n, rfl⟩
set_option maxRecDepth 100000 in
set_option maxHeartbeats 400000 in
theorem hsame_nil (a : Option Addr) (c : Nat) (b : Option Addr) (c2 : Nat) (w : World) :
    Calls Try.prog 18 #[.slice a 0 c, .slice b 0 c2] w fun e w' => e = .returned (.bool true) ∧ w' = w := by
  go_enter Try.func18, Try.ntmps18
  go_wp2
  go_loopw [4, 5] (fun o i wr => o = .bool false ∧ i = .int .i64 0 ∧ wr = w) (fun _ _ _ => 0)
  case atStart => exact ⟨rfl, rfl, rfl⟩
  case round =>
    obtain ⟨rfl, rfl, rfl⟩ := hrel
    go_wp2
    go_ret
    exact ⟨rfl, rfl⟩
set_option maxRecDepth 100000 in
set_option maxHeartbeats 400000 in
theorem hsame_unlike (a : Option Addr) (c : Nat) (b : Option Addr) (c2 n m : Nat) (w : World) (h : n ≠ m) :
    Calls Try.prog 18 #[.slice a n c, .slice b m c2] w fun e w' => e = .returned (.bool false) ∧ w' = w := by
  have hne : ((n : Int) != (m : Int)) = true := by simp; omega
  go_enter Try.func18, Try.ntmps18
  go_wp2
  go_ret
  exact ⟨rfl, rfl⟩
theorem hsame_is (va vb : Value) (la lb : List Nat) (w : World) (hA : IsB w va la) (hB : IsB w vb lb) :
    Calls Try.prog 18 #[va, vb] w fun e w' => e = .returned (.bool (decide (la = lb))) ∧ ∃ n, w' = w.drewN n := by
  by_cases hl : la.length = lb.length
  · by_cases h0 : la.length = 0
    · obtain rfl : la = [] := List.length_eq_zero_iff.1 h0
      obtain rfl : lb = [] := List.length_eq_zero_iff.1 (by omega)
      obtain ⟨a, ca, rfl⟩ := hA.shape
      obtain ⟨b, cb, rfl⟩ := hB.shape
      refine (hsame_nil a ca b cb w).mono ?_
      rintro e w' ⟨rfl, rfl⟩
      exact ⟨rfl, 0, rfl⟩
    · obtain ⟨_, hm, ⟨rfl, _⟩ | ⟨ba, oa, ca, rfl, _, _, _, hr⟩⟩ := hA
      · simp at h0
      · obtain ⟨_, _, ⟨rfl, _⟩ | ⟨bb, ob, cb, rfl, _, _, _, hs⟩⟩ := hB
        · simp at hl; simp [hl] at h0
        · rw [← hl]; exact hsame_row ba oa ca bb ob cb la lb w hl hr hs hm
  · obtain ⟨a, ca, rfl⟩ := hA.shape
    obtain ⟨b, cb, rfl⟩ := hB.shape
    refine (hsame_unlike a ca b cb _ _ w hl).mono ?_
    rintro e w' ⟨rfl, rfl⟩
    exact ⟨by rw [decide_eq_false]; intro e; exact hl (by rw [e]), 0, rfl⟩
end Vt
end Go.Proofs.Ytfnbfgkoicdiaaa
namespace Go.Proofs.Ytfnbfgkoicdiaaa
open Go.RowKit Go.Shelf
namespace Vt
attribute [local go_sem] Oper.semAt_some
set_option maxRecDepth 100000 in
set_option maxHeartbeats 2000000 in
theorem whole_walk (v vd : Value) (l ld : List Nat) (w : World) (hI : IsB w v l) (hD : IsB w vd ld) :
    Calls Try.prog 6 #[v, vd] w fun e w' => e = .returned (.bool true) ∧ Below w.heap.size w w' := by
  obtain ⟨a, c, rfl⟩ := hI.shape
  obtain ⟨ad, cd, rfl⟩ := hD.shape
  have HI := hd hI
  have HD := hd hD
  have HWH := hd (fun s => whole (b := l) (data := ld) (s := s) hI.1 hD.1)
  clear hI hD
  go_enter Try.func6, Try.ntmps6
  go_wp2_with fail
  refine Calls.mono (hknown_is w) ?_
  rintro e w1 ⟨rfl, hb1⟩
  have HB1 := hd hb1
  have HI1 := hd (HI.out.below hb1)
  have HD1 := hd (HD.out.below hb1)
  clear hb1 HI HD
  go_wp2_with fail
  refine Calls.mono (print_is _ l w1 HI1.out) ?_
  rintro e w2 ⟨rfl, hb2⟩
  have HB2 := hd (HB1.out.trans (hb2.mono HB1.out.size))
  have HI2 := hd (HI1.out.below hb2)
  have HD2 := hd (HD1.out.below hb2)
  have HLO : Hid (Calls Try.prog 9 #[.slice ad ld.length cd, .agg (prv l.length (locs 0 l).length (Crc.go 0 l))] w2 fun e w' => ldP (ldS ld) (l.length : Int) ((locs 0 l).length : Int) (Crc.go 0 l) w2.heap.size e w' ∧ Below w2.heap.size w2 w') := load_is _ ld (l.length : Int) ((locs 0 l).length : Int) (Crc.go 0 l) w2 HD2.out
  clear hb2 HI1 HD1 HB1
  generalize prv l.length (locs 0 l).length (Crc.go 0 l) = pp at HLO ⊢
  go_wp2_with fail
  refine Calls.mono HLO.out ?_
  clear HLO
  rintro e w3 ⟨hld, hb3⟩
  have HB3 := hd (HB2.out.trans (hb3.mono HB2.out.size))
  have HI3 := hd (HI2.out.below hb3)
  have HD3 := hd (HD2.out.below hb3)
  have hcase : (∃ vd : Int, e = .returned (.tuple #[.slice none 0 0, .int .i64 vd]) ∧ vd ≠ 1) ∨ ∃ s u, ldS ld = some s ∧ s.e.bytes = (l.length : Int) ∧ s.e.frames = ((locs 0 l).length : Int) ∧ s.e.sum = Crc.go 0 l ∧ e = .returned (.tuple #[u, .int .i64 1]) ∧ JPt w3 w2.heap.size u (s.ps.map pvl) := by
    unfold ldP at hld
    cases hs : ldS ld with
    | none => rw [hs] at hld; exact .inl ⟨4, hld, by decide⟩
    | some s =>
      rw [hs] at hld
      rcases hld with ⟨_, rfl⟩ | ⟨⟨h1, h2, h3⟩, u, rfl, hj⟩
      · exact .inl ⟨3, rfl, by decide⟩
      · exact .inr ⟨s, u, rfl, h1, h2, h3, rfl, hj⟩
  have hsz3 := hb3.size
  clear hld hb3 HI2 HD2 HB2
  rcases hcase with ⟨vv, rfl, hvv⟩ | ⟨s, u, hs, h1, h2, h3, rfl, hj⟩
  · have b1 : (vv != 1) = true := by simp [hvv]
    go_wp2_with fail
    go_ret
    exact ⟨rfl, HB3.out⟩
  · have HW := hd (HWH.out s hs h1 h2 h3)
    have HJ := hd hj
    obtain ⟨au, cu, rfl, hcu⟩ := hj.shape
    rw [List.length_map] at HJ hcu ⊢
    clear HWH hs h1 h2 h3 hj
    obtain ⟨ps, se, sn, sx⟩ := s
    simp only at HW HJ hcu ⊢
    have hpl := HJ.out.len_le
    rw [List.length_map] at hpl
    unfold maxLen at hpl
    go_wp2_with fail
    go_loopw [8] (fun i wr => ∃ k : Nat, k ≤ ps.length ∧ i = .int .i64 (k : Int) ∧ (∀ j, j < k → ∀ p, ps[j]? = some p → chk l p = true) ∧ Below w3.heap.size w3 wr) (fun i _ => ps.length - (intOf i).toNat)
    case atStart => exact ⟨0, by omega, rfl, by intro j hj; omega, Below.refl _ _⟩
    case round =>
      obtain ⟨k, hk, rfl, hc, hbr⟩ := hrel
      have HC := hd hc
      have HBR := hd hbr
      have HBF := hd (HB3.out.trans (hbr.mono HB3.out.size))
      clear hc hbr
      by_cases hlt : k < ps.length
      · obtain ⟨p, hp⟩ : ∃ p, ps[k]? = some p := ⟨_, List.getElem?_eq_getElem hlt⟩
        have hjr := HJ.out.keepAll HBR.out
        obtain ⟨g, cu', he, hcu1, hcu2⟩ := hjr.nn (by intro e; rw [List.map_eq_nil_iff] at e; subst e; simp at hlt)
        rw [List.length_map] at he
        injection he with he1 he2 he3
        subst he1 he3
        have hrow : (ps.map pvl)[k]? = some (pvl p) := by rw [List.getElem?_map, hp]; rfl
        rw [← List.length_map (f := pvl)] at hjr
        have d0 := hjr.at k (pvl p) 0 _ hrow rfl
        have d1 := hjr.at k (pvl p) 1 _ hrow rfl
        have d2 := hjr.at k (pvl p) 2 _ hrow rfl
        have d3 := hjr.at k (pvl p) 3 _ hrow rfl
        have d4 := hjr.at k (pvl p) 4 _ hrow rfl
        have HCK := hd (check_is (.slice a l.length c) l p wr (HI3.out.below HBR.out))
        have HP := hd hp
        obtain ⟨p1, p2, p3, p4, p5⟩ := p
        simp only [pv] at HCK d0 d1 d2 d3 d4
        rw [Nat.add_zero] at d0
        clear hjr hrow hp he2
        go_wp2_with fail
        refine Calls.mono HCK.out ?_
        rintro e w4 ⟨rfl, hb4⟩
        have HB4 := hd (HBR.out.trans (hb4.mono HBR.out.size))
        have HBF4 := hd (HBF.out.trans (hb4.mono HBF.out.size))
        clear HCK hb4
        cases hck : chk l ⟨p1, p2, p3, p4, p5⟩ with
        | false =>
          clear hck
          go_wp2_with fail
          go_ret
          exact ⟨rfl, HBF4.out⟩
        | true =>
          have HNEW : Hid (∀ j, j < k + 1 → ∀ p, ps[j]? = some p → chk l p = true) := fun j hj p hp => by
            rcases Nat.lt_or_ge j k with h | h
            · exact HC.out j h p hp
            · obtain rfl : j = k := by omega
              rw [HP.out] at hp
              obtain rfl := Option.some.inj hp
              exact hck
          clear hck HC
          go_wp2_with fail
          go_roundw
          case rel => exact ⟨k + 1, by omega, by go_num, HNEW.out, HB4.out⟩
          case measure => simp [intOf]; omega
      · obtain rfl : k = ps.length := by omega
        obtain ⟨hmay, hho⟩ := HW.out (fun p hp => by
          obtain ⟨j, hj, rfl⟩ := List.mem_iff_getElem.1 hp
          exact HC.out j hj _ (List.getElem?_eq_getElem hj))
        have HHO := hd hho
        have HMA := hd hmay
        have HIR := hd (HI3.out.below HBR.out)
        have HDR := hd (HD3.out.below HBR.out)
        clear hmay hho HW HC
        go_wp2_with fail
        refine Calls.mono (hof_is _ l wr HIR.out) ?_
        rintro e w5 ⟨⟨_, u, rfl, hj5⟩ | ⟨hn, _⟩, hb5⟩
        · rw [HHO.out] at hj5
          obtain ⟨a5, c5, rfl, _⟩ := hj5.shape
          have HBF5 := hd (HBF.out.trans (hb5.mono HBF.out.size))
          have HSA := hd (hsame_is (.slice a5 ld.length c5) (.slice ad ld.length cd) ld ld w5 hj5.isB (HDR.out.below hb5))
          clear hj5 hb5
          go_wp2_with fail
          refine Calls.mono HSA.out ?_
          rintro e w6 ⟨rfl, n6, rfl⟩
          clear HSA
          go_wp2_with fail
          go_ret
          exact ⟨rfl, below_drewN HBF5.out n6⟩
        · exact absurd HMA.out hn
end Vt
end Go.Proofs.Ytfnbfgkoicdiaaa
