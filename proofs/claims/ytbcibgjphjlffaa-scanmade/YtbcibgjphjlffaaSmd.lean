/-
  The law ScanMade: what is laid down by turns is found.
-/
import Derived.Test.YtbcibgjphjlffaaSrb
import Derived.Test.YtbcibgjphjlffaaSc6
import Derived.Test.YtbcibgjphjlffaaW7
namespace Go.Proofs.Ytbcibgjphjlffaa
open Go.RowKit Go.Shelf
namespace Vt
/-- bytes that were made of junk and frames by turns, and the frames among them -/
def Mk (bs : List Nat) (wn : List Lc) : Prop := Byt bs ∧ (∀ x ∈ wn, isw [1, 2] x = true) ∧ ∀ r, Byt r → locs 0 (bs ++ r) = wn ++ locs bs.length r
theorem Mk.nil : Mk [] [] := ⟨(by intro x hx; cases hx), (by simp), fun r _ => by simp⟩
theorem Mk.junk {bs : List Nat} {wn : List Lc} (h : Mk bs wn) {x : Nat} (hx : x < 256) (h2 : x ≠ 167) : Mk (bs ++ [x]) wn := by
  have hb1 : Byt [x] := by intro y hy; simp at hy; omega
  refine ⟨byt_app h.1 hb1, h.2.1, fun r hr => ?_⟩
  rw [List.append_assoc, h.2.2 ([x] ++ r) (byt_app hb1 hr), locs_junk (j := [x]) (by intro y hy; simp at hy; omega) (byt_app hb1 hr), List.length_append]
theorem Mk.en {bs : List Nat} {wn : List Lc} (h : Mk bs wn) {f : Fr} (hw : f.Wf) (hf : rf f = 0) (hk : f.kind = 1 ∨ f.kind = 2) : Mk (bs ++ en f) (wn ++ [(bs.length, (en f).length, f)]) := by
  have hb1 : Byt (Vt.en f) := en_byt hf
  refine ⟨byt_app h.1 hb1, ?_, fun r hr => ?_⟩
  · intro x hx
    rcases List.mem_append.1 hx with h3 | h3
    · exact h.2.1 x h3
    · simp only [List.mem_singleton] at h3
      subst h3
      unfold isw
      simp only [decide_eq_true_eq]
      rcases hk with e | e <;> simp [e]
  · rw [List.append_assoc, h.2.2 (Vt.en f ++ r) (byt_app hb1 hr), locs_en hw hf (byt_app hb1 hr), List.length_append, List.append_assoc, List.singleton_append]
theorem Mk.locs {bs : List Nat} {wn : List Lc} (h : Mk bs wn) : Vt.locs 0 bs = wn := by
  have := h.2.2 [] (by intro x hx; cases hx)
  rwa [List.append_nil, locs_nil, List.append_nil] at this
theorem Mk.recs {bs : List Nat} {wn : List Lc} (h : Mk bs wn) : Vt.recs [1, 2] bs = wn := by
  unfold Vt.recs
  rw [h.locs]
  exact List.filter_eq_self.2 h.2.1
theorem Mk.len {bs : List Nat} {wn : List Lc} (h : Mk bs wn) : 9 * wn.length ≤ bs.length := by
  have := locs_len h.1 _ (Nat.le_refl _) 0
  rwa [h.locs] at this
theorem ofR_kind {r : Rec} (h : rf (ofR r) = 0) : r.kind = 1 ∨ r.kind = 2 := by
  have hk : (ofR r).kind = r.kind := rfl
  unfold rf at h
  by_cases c : (ofR r).kind = 1 ∨ (ofR r).kind = 2
  · exact c
  · rw [if_neg c] at h
    by_cases c3 : (ofR r).kind = 3
    · rw [if_pos c3] at h
      unfold rfP at h
      rw [if_pos (by show (0 : Int) ≠ 1 ∧ (0 : Int) ≠ 2; decide)] at h
      cases h
    · rw [if_neg c3] at h
      by_cases c4 : (ofR r).kind = 4
      · rw [if_pos c4] at h
        unfold rfE at h
        split at h
        · cases h
        · rw [if_pos (by
            intro e
            have e2 : r = zr := congrArg Fr.r e
            rw [e2] at c4
            have c5 : (0 : Int) = 4 := c4
            omega)] at h
          cases h
      · rw [if_neg c4] at h
        cases h
/-- a slice of records as a parameter -/
def IsRc (w : World) (v : Value) (rs : List Rec) : Prop :=
  (∀ r ∈ rs, r.lsn < 18446744073709551616) ∧ ((rs = [] ∧ ∃ a c, v = .slice a 0 c) ∨ ∃ b off c, v = .slice (some ⟨b, off, none⟩) rs.length c ∧ b < w.heap.size ∧ ∀ i, i < rs.length → ∀ j u, (rv (rs.getD i zr))[j]? = some u → w.cell? ⟨b, off + i * 4 + j, none⟩ = some u)
theorem JK.grownR {k : IntKind} {M : Nat} {E E' : TypeId} {sz' : Nat} {w w' : World} {b1 b2 : Nat} {v u : Value} {l : List Nat} {m : List (List Value)} (h : JK k M E w b1 v l) (hr : JR E' sz' w b2 u m) (hne : E ≠ E') (hg : w.grownBy w' u.ownBlock) : JK k M E w' b1 v l := by
  refine h.grownO hg fun g hgb e => ?_
  obtain ⟨_, _, ⟨rfl, _⟩ | ⟨g1, cap1, cur1, rfl, _, hh1, _⟩⟩ := h
  · cases hgb
  · obtain ⟨_, _, ⟨rfl, _⟩ | ⟨g2, cap2, cur2, rfl, _, hh2, _⟩⟩ := hr
    · cases e
    · cases hgb
      injection e with e
      have e' : g1 = g2 := e
      subst e'
      rw [hh1] at hh2
      injection hh2 with hh2
      injection hh2 with _ hh2
      exact hne hh2
theorem JR.grownK {k : IntKind} {M : Nat} {E E' : TypeId} {sz' : Nat} {w w' : World} {b1 b2 : Nat} {v u : Value} {l : List Nat} {m : List (List Value)} (hr : JR E' sz' w b2 u m) (h : JK k M E w b1 v l) (hne : E ≠ E') (hg : w.grownBy w' v.ownBlock) : JR E' sz' w' b2 u m := by
  refine hr.grownO hg fun g hgb e => ?_
  obtain ⟨_, _, ⟨rfl, _⟩ | ⟨g1, cap1, cur1, rfl, _, hh1, _⟩⟩ := h
  · cases e
  · obtain ⟨_, _, ⟨rfl, _⟩ | ⟨g2, cap2, cur2, rfl, _, hh2, _⟩⟩ := hr
    · cases hgb
    · cases hgb
      injection e with e
      have e' : g2 = g1 := e
      subst e'
      rw [hh1] at hh2
      injection hh2 with hh2
      injection hh2 with _ hh2
      exact hne hh2
theorem eq_lc (x : Lc) (w : World) : (Op.equalIn 10000 75 (.agg (lcv x).toArray) (.agg (lcv x).toArray)).run Try.prog w = .ok true w := by
  unfold lcv
  simp [go_sem, Op.eqFields]
theorem neq_lc (x : Lc) (w : World) : (binOp .neq 75 (.agg (lcv x).toArray) (.agg (lcv x).toArray)).run Try.prog w = .ok (.bool false) w := by
  rw [run_neq_struct, eq_lc]; rfl
end Vt
end Go.Proofs.Ytbcibgjphjlffaa
namespace Go.Proofs.Ytbcibgjphjlffaa
open Go.RowKit Go.Shelf
namespace Vt
set_option maxRecDepth 100000 in
set_option maxHeartbeats 4000000 in
theorem made_all (ra : Option Addr) (c : Nat) (rs : List Rec) (u : Value) (js : List (List Nat)) (w : World) (hl : ∀ r ∈ rs, r.lsn < 18446744073709551616) (hr : rs = [] ∨ ∃ b off, ra = some ⟨b, off, none⟩ ∧ b < w.heap.size ∧ ∀ i, i < rs.length → ∀ j u, (rv (rs.getD i zr))[j]? = some u → w.cell? ⟨b, off + i * 4 + j, none⟩ = some u) (hU : IsP w u js) (hm : rs.length ≤ 9223372036854775807) :
    Calls Try.prog 10 #[.slice ra rs.length c, u] w fun e w' => e = .returned (.bool true) ∧ Below w.heap.size w w' := by
  have HL := hd hl
  have HR := hd hr
  have HU := hd hU
  obtain ⟨hjm, hjs⟩ := hU
  have HJS := hd hjs
  obtain ⟨ja, jc, rfl⟩ : ∃ a c, u = .slice a js.length c := by
    rcases hjs with ⟨rfl, a, c, rfl⟩ | ⟨b, off, c, rfl, _⟩
    · exact ⟨a, c, rfl⟩
    · exact ⟨_, c, rfl⟩
  clear hl hr hjs
  replace hjm : js.length ≤ 9223372036854775807 := hjm
  go_enter Try.func10, Try.ntmps10
  go_wp2_with fail
  refine Calls.mono (works_is w) ?_
  rintro e w1 ⟨rfl, b1⟩
  have HB1 := hd b1
  clear b1
  go_wp2_with fail
  go_loopw [6, 7, 8] (fun vb vw i wr => ∃ (k : Nat) (bs : List Nat) (wn : List Lc), k ≤ rs.length ∧ i = .int .i64 (k : Int) ∧ Mk bs wn ∧ bs.length ≤ 1005000 ∧ JB wr w.heap.size vb bs ∧ JL wr w.heap.size vw (wn.map lcv) ∧ Below w.heap.size w wr) (fun _ _ i _ => rs.length - (intOf i).toNat)
  case atStart => exact ⟨0, [], [], by omega, rfl, Mk.nil, by simp, jk_nil _ _, jr_nil _ _, HB1.out⟩
  case round =>
    obtain ⟨k, bs, wn, hk, rfl, hMk, hbl, hB, hW, hbe⟩ := hrel
    have HMK := hd hMk
    have HBB := hd hB
    have HWW := hd hW
    have HBE := hd hbe
    obtain ⟨ba, bc, rfl, hbc⟩ := JK.shape (k := .u8) (M := 256) (E := 5) hB
    obtain ⟨wa, wc, rfl, hwc⟩ := hW.shape
    have hwl := hMk.len
    have hsz := hbe.size
    rw [List.length_map] at hwc HWW
    rw [List.length_map]
    clear hMk hB hW hbe
    by_cases hgo : k < rs.length ∧ bs.length < 1000000
    · obtain ⟨hk1, hb1⟩ := hgo
      have q1 : decide ((bs.length : Int) < 1000000) = true := by rw [decide_eq_true_iff]; omega
      have HBL := hd hb1
      clear hb1 hbl
      obtain ⟨b, off, hra, hb, hrk⟩ : ∃ b off, ra = some ⟨b, off, none⟩ ∧ b < w.heap.size ∧ ∀ j u, (rv (rs.getD k zr))[j]? = some u → w.cell? ⟨b, off + k * 4 + j, none⟩ = some u := by
        rcases HR.out with e | ⟨b, off, e, h1, h2⟩
        · rw [e] at hk1; simp at hk1
        · exact ⟨b, off, e, h1, h2 k hk1⟩
      subst hra
      have HRK := hd hrk
      clear hrk
      have HLK : Hid ((rs.getD k zr).lsn < 18446744073709551616) := HL.out _ (by rw [List.getD_eq_getElem?_getD, List.getElem?_eq_getElem hk1]; exact List.getElem_mem hk1)
      obtain ⟨r, hr⟩ : ∃ r, r = rs.getD k zr := ⟨_, rfl⟩
      rw [← hr] at HRK HLK
      clear hr
      have HC0 : Hid (∀ W : World, Below w.heap.size w W → W.cell? ⟨b, off + k * 4, none⟩ = some (.int .u64 (r.lsn : Int)) ∧ W.cell? ⟨b, off + k * 4 + 1, none⟩ = some (.int .i64 r.kind) ∧ W.cell? ⟨b, off + k * 4 + 2, none⟩ = some (.string r.key) ∧ W.cell? ⟨b, off + k * 4 + 3, none⟩ = some (.string r.val)) := by
        intro W hW
        exact ⟨by rw [hW.cell (p := ⟨b, off + k * 4, none⟩) hb]; exact HRK.out 0 _ rfl, by rw [hW.cell (p := ⟨b, off + k * 4 + 1, none⟩) hb]; exact HRK.out 1 _ rfl, by rw [hW.cell (p := ⟨b, off + k * 4 + 2, none⟩) hb]; exact HRK.out 2 _ rfl, by rw [hW.cell (p := ⟨b, off + k * 4 + 3, none⟩) hb]; exact HRK.out 3 _ rfl⟩
      clear HRK hb
      by_cases hj : k < js.length
      · obtain ⟨jb, joff, hje, hjb, hps⟩ : ∃ jb joff, ja = some ⟨jb, joff, none⟩ ∧ jb < w.heap.size ∧ IsPs w jb joff js := by
          rcases HJS.out with ⟨e, _⟩ | ⟨b', o', c', e, h1, h2⟩
          · rw [e] at hj; simp at hj
          · injection e with e1 e2 e3
            exact ⟨b', o', e1, h1, h2⟩
        subst hje
        obtain ⟨vj, hcj, hIj⟩ := hps k hj
        obtain ⟨m, hmm⟩ : ∃ m, m = js.getD k [] := ⟨_, rfl⟩
        rw [← hmm] at hIj
        obtain ⟨ma, mc, rfl⟩ := hIj.shape
        have HIJ := hd hIj
        have HCJ : Hid (∀ W : World, Below w.heap.size w W → W.cell? ⟨jb, joff + k, none⟩ = some (.slice ma m.length mc)) := fun W hW => by rw [hW.cell (p := ⟨jb, joff + k, none⟩) hjb]; exact hcj
        have hcw := HCJ.out wr HBE.out
        have hml : m.length ≤ 9223372036854775807 := by have := hIj.2.1; unfold maxLen at this; omega
        clear hps hmm hIj hcj
        go_wp2_with fail
        go_loopw [6, 9] (fun vb i wx => ∃ (t : Nat) (bs : List Nat), t ≤ m.length ∧ i = .int .i64 (t : Int) ∧ Mk bs wn ∧ bs.length ≤ 1000000 ∧ JB wx w.heap.size vb bs ∧ JL wx w.heap.size (.slice wa wn.length wc) (wn.map lcv) ∧ Below w.heap.size w wx) (fun _ i _ => m.length - (intOf i).toNat)
        case atStart => exact ⟨0, bs, by omega, rfl, HMK.out, by have := HBL.out; omega, HBB.out, HWW.out, HBE.out⟩
        case round =>
          clear HMK HBB HWW HBE HBL hwl hsz hcw q1 hbc
          obtain ⟨t, bs, ht, rfl, hMk, hbl, hB, hW, hbe⟩ := hrel
          have HMK := hd hMk
          have HBB := hd hB
          have HWW := hd hW
          have HBE := hd hbe
          obtain ⟨ba, bc, rfl, hbc⟩ := JK.shape (k := .u8) (M := 256) (E := 5) hB
          have hwl := hMk.len
          have hsz := hbe.size
          have hcw := HCJ.out wr hbe
          have HBL := hd hbl
          by_cases hgo : t < m.length ∧ bs.length < 1000000
          · obtain ⟨ht1, hb1⟩ := hgo
            have q1 : decide ((bs.length : Int) < 1000000) = true := by rw [decide_eq_true_iff]; omega
            have HB1 := hd hb1
            obtain ⟨hy, _, ⟨e, _⟩ | ⟨mb, mo, mc2, e, _, _, hmb, hrow⟩⟩ := HIJ.out
            · rw [e] at ht1; simp at ht1
            injection e with e1 e2 e3
            subst e1 e3
            have hx : wr.cell? ⟨mb, mo + t, none⟩ = some (.int .u8 ((m.getD t 0 : Nat) : Int)) := by rw [hbe.cell (p := ⟨mb, mo + t, none⟩) hmb]; exact hrow t ht1
            have hxl := getD_lt hy t
            obtain ⟨y, hye⟩ : ∃ y, y = m.getD t 0 := ⟨_, rfl⟩
            rw [← hye] at hx hxl
            clear hMk hB hW hbe hbl hb1 hye hrow hy
            by_cases h167 : y = 167
            · subst h167
              go_wp2_with fail
              go_roundw
              case rel => exact ⟨t + 1, bs, ht1, by go_num, HMK.out, HBL.out, HBB.out, HWW.out, HBE.out⟩
              case measure => simp [intOf]; omega
            · have HM2 := hd (HMK.out.junk (x := y) (by omega) h167)
              have hny : ((y : Int) != 167) = true := by simp; omega
              go_wp2_with (at_builtin; refine wpList_append_jk Try.underlying22 info_u8 _ rfl _ _ rfl w.heap.size (.slice ba bs.length bc) (.slice (some ⟨wr.heap.size, 0, none⟩) 1 1) bs [y] rfl rfl (JK.keepAll (k := .u8) (M := 256) (E := 5) HBB.out ((Below.refl _ _).alloc (Nat.le_refl _) _)) (lit_isK .u8 256 wr #[.int .u8 (y : Int)] 5 [y] 1 rfl rfl (by simpa using hxl) (by simp [maxLen])) (bs.length + 1) rfl (bs ++ [y]) rfl (by have := HBL.out; omega) (by have := HBL.out; omega) (by rw [World.size_alloc]; omega) ?_; intro a10 c10 w10 hj10 hg10 hk10 hc10; have HJW := hd (JR.grownK (HWW.out.alloc _) (JK.keepAll (k := .u8) (M := 256) (E := 5) HBB.out ((Below.refl _ _).alloc (Nat.le_refl _) _)) (by decide) hg10); have HJB := hd hj10; have HE10 := hd ((HBE.out.alloc hsz _).grown hg10 (by rw [World.size_alloc]; omega) (fun q hq => JK.blk_ge (k := .u8) (M := 256) (E := 5) HBB.out q hq)); clear hj10 hg10 hk10)
              go_roundw
              case rel => exact ⟨t + 1, bs ++ [y], ht1, by go_num, HM2.out, by have := HB1.out; rw [List.length_append, List.length_singleton]; omega, HJB.out, HJW.out, HE10.out⟩
              case measure => simp [intOf]; omega
          · have hno : ¬ t < m.length ∨ (t < m.length ∧ decide ((bs.length : Int) < 1000000) = false) := by
              by_cases h : t < m.length
              · exact .inr ⟨h, by rw [decide_eq_false_iff_not]; omega⟩
              · exact .inl h
            have hbl2 : bs.length ≤ 4611686018427387904 := by omega
            obtain ⟨c0, c1, c2, c3⟩ := HC0.out wr hbe
            clear hgo hMk hB hW hbe hbl
            rcases hno with h1 | ⟨h1, h2⟩
            all_goals
              go_wp2_with fail
              have HOF := hd (of_is r wr)
              rw [show fv (ofR r) = #[.int .i64 r.kind, .int .u64 (r.lsn : Int), .int .i64 r.kind, .string r.key, .string r.val, .int .u64 0, .int .i64 0, .int .i64 0, .int .i64 0, .string ⟨#[]⟩, .int .i64 0, .int .i64 0, .int .i64 0, .int .u32 0] from rfl] at HOF
              refine Calls.mono HOF.out ?_
              rintro e w6 ⟨rfl, hw6⟩
              have hB6 : Below wr.heap.size wr w6 := by rw [hw6]; exact ((Below.refl _ _).alloc (Nat.le_refl _) _).alloc (by simp) _
              have HB6 := hd (JK.keepAll (k := .u8) (M := 256) (E := 5) HBB.out hB6)
              have HW6 := hd (HWW.out.keepAll hB6)
              have HE6 := hd (HBE.out.trans (hB6.mono hsz))
              have hs6 := hB6.size
              clear hw6 hB6 HOF c0 c1 c2 c3
              go_wp2_with fail
              obtain ⟨F, hF⟩ : ∃ F, F = w6.heap.size := ⟨_, rfl⟩
              obtain ⟨W7, hW7⟩ : ∃ W7, W7 = w6.alloc (.cells #[.int .i64 r.kind, .int .u64 (r.lsn : Int), .int .i64 r.kind, .string r.key, .string r.val, .int .u64 0, .int .i64 0, .int .i64 0, .int .i64 0, .string ⟨#[]⟩, .int .i64 0, .int .i64 0, .int .i64 0, .int .u32 0] 36) := ⟨_, rfl⟩
              have hB7 : Below w6.heap.size w6 W7 := by rw [hW7]; exact (Below.refl _ _).alloc (Nat.le_refl _) _
              have HF7 : Hid (Blk W7 F 36 [.int .i64 r.kind, .int .u64 (r.lsn : Int), .int .i64 r.kind, .string r.key, .string r.val, .int .u64 0, .int .i64 0, .int .i64 0, .int .i64 0, .string ⟨#[]⟩, .int .i64 0, .int .i64 0, .int .i64 0, .int .u32 0]) := by rw [hW7, hF]; exact Blk.new w6 _ _
              have HB7 := hd (JK.keepAll (k := .u8) (M := 256) (E := 5) HB6.out hB7)
              have HW7 := hd (HW6.out.keepAll hB7)
              have HE7 := hd (HE6.out.trans (hB7.mono (by omega)))
              have hs7 := hB7.size
              rw [← hW7, ← hF]
              have hFw : w.heap.size ≤ F := by rw [hF]; omega
              clear hW7 hF hB7 HB6 HW6 HE6
              by_cases hrf : rf (ofR r) = 0
              · have HEN : Hid (Calls Try.prog 21 #[.agg #[.int .i64 r.kind, .int .u64 (r.lsn : Int), .int .i64 r.kind, .string r.key, .string r.val, .int .u64 0, .int .i64 0, .int .i64 0, .int .i64 0, .string ⟨#[]⟩, .int .i64 0, .int .i64 0, .int .i64 0, .int .u32 0]] W7 fun e w' => ∃ u, e = .returned (.tuple #[u, .int .i64 0]) ∧ JB w' W7.heap.size u (en (ofR r)) ∧ Below W7.heap.size W7 w') := encF_all ⟨HLK.out, (by decide : (0 : Nat) < 18446744073709551616), (by decide : (0 : Nat) < 4294967296)⟩ hrf W7
                have HMK2 := hd (HMK.out.en (f := ofR r) ⟨HLK.out, (by decide : (0 : Nat) < 18446744073709551616), (by decide : (0 : Nat) < 4294967296)⟩ hrf (ofR_kind hrf))
                have hel : (en (ofR r)).length ≤ 4500 := by
                  have h1 := en_len (ofR r)
                  have h2 := wr_len (bd (ofR r))
                  have h3 := (bd_len (f := ofR r) ⟨HLK.out, (by decide : (0 : Nat) < 18446744073709551616), (by decide : (0 : Nat) < 4294967296)⟩ hrf).1
                  omega
                have hep := en_pos (ofR r)
                obtain ⟨EN, hEN⟩ : ∃ EN, EN = en (ofR r) := ⟨_, rfl⟩
                rw [← hEN] at HMK2 hel hep
                simp only [← hEN] at HEN
                clear hEN hrf
                refine Calls.mono HEN.out ?_
                rintro e w8 ⟨x8, rfl, j8, b8⟩
                obtain ⟨xa, xc, rfl, hxc⟩ := JK.shape (k := .u8) (M := 256) (E := 5) j8
                have HX8 := hd j8
                have HF8 := hd (HF7.out.keep b8)
                have HB8 := hd (JK.keepAll (k := .u8) (M := 256) (E := 5) HB7.out b8)
                have HW8 := hd (HW7.out.keepAll b8)
                have hs8 := b8.size
                have HE8 := hd (HE7.out.trans (b8.mono (by omega)))
                clear j8 b8 HEN HB7 HW7 HE7 HF7
                have f0 := HF8.out.cell 0 _ rfl
                have f1 := HF8.out.cell 1 _ rfl
                have f2 := HF8.out.cell 2 _ rfl
                have f3 := HF8.out.cell 3 _ rfl
                have f4 := HF8.out.cell 4 _ rfl
                have f5 := HF8.out.cell 5 _ rfl
                have f6 := HF8.out.cell 6 _ rfl
                have f7 := HF8.out.cell 7 _ rfl
                have f8 := HF8.out.cell 8 _ rfl
                have f9 := HF8.out.cell 9 _ rfl
                have f10 := HF8.out.cell 10 _ rfl
                have f11 := HF8.out.cell 11 _ rfl
                have f12 := HF8.out.cell 12 _ rfl
                have f13 := HF8.out.cell 13 _ rfl
                have hwl2 : wn.length + 1 ≤ 1000000 := by have := HBL.out; omega
                have HWL2 := hd hwl2
                have HEL := hd hel
                have HEP := hd hep
                clear hwl2 hel hep
                have HON : Hid (∀ u ∈ ([.int .i64 r.kind, .int .u64 (r.lsn : Int), .int .i64 r.kind, .string r.key, .string r.val, .int .u64 0, .int .i64 0, .int .i64 0, .int .i64 0, .string ⟨#[]⟩, .int .i64 0, .int .i64 0, .int .i64 0, .int .u32 0, .int .i64 (bs.length : Int), .int .i64 (EN.length : Int)] : List Value), u.oneCell' = true) := lcv_one (bs.length, EN.length, ofR r)
                have tok1 : True := trivial
                go_wp2_with (first
                  | (at_builtin; have _t := tok1; (refine wpList_append_jr Try.underlying73 info_lc rfl (by decide) _ rfl _ _ rfl w.heap.size (.slice wa wn.length wc) (wn.map lcv) w8.heap.size 1 [.int .i64 r.kind, .int .u64 (r.lsn : Int), .int .i64 r.kind, .string r.key, .string r.val, .int .u64 0, .int .i64 0, .int .i64 0, .int .i64 0, .string ⟨#[]⟩, .int .i64 0, .int .i64 0, .int .i64 0, .int .u32 0, .int .i64 (bs.length : Int), .int .i64 (EN.length : Int)] rfl rfl (HW8.out.alloc _) rfl HON.out (fun j u hu => cell_lit w8 _ _ j u _ rfl hu) (wn.length + 1) (by rw [List.length_map]) (by have := HWL2.out; omega) (by have := HWL2.out; unfold maxLen; omega) (by rw [World.size_alloc]; omega) ?_; intro g9 c9 w9 hj9 hg9 hw9; clear tok1; have tok2 : True := trivial; have hb9 := JK.grownR (k := .u8) (M := 256) (E := 5) (JK.keepAll (k := .u8) (M := 256) (E := 5) HB8.out ((Below.refl _ _).alloc (Nat.le_refl _) _)) (HW8.out.alloc _) (by decide) hg9; have HJ9 := hd hj9; have HB9 := hd hb9; have HG9 := hd hg9; have hs9 := hg9.size; have he9 := (HE8.out.alloc (by omega) _).grown hg9 (by rw [World.size_alloc]; omega) (fun q hq => HW8.out.blk_ge q hq); have HE9 := hd he9; have HX9 := hd (JK.grownR (k := .u8) (M := 256) (E := 5) (JK.keepAll (k := .u8) (M := 256) (E := 5) HX8.out ((Below.refl _ _).alloc (Nat.le_refl _) _)) (HW8.out.alloc _) (by decide) hg9); clear hj9 hb9 hg9 hw9 he9))
                  | (at_builtin; have _t := tok2; (refine wpList_append_jk Try.underlying22 info_u8 _ rfl _ _ rfl w.heap.size (.slice ba bs.length bc) (.slice xa EN.length xc) bs EN rfl rfl HB9.out (JK.isK (k := .u8) (M := 256) (E := 5) HX9.out) (bs.length + EN.length) rfl (bs ++ EN) rfl (by have := HBL.out; have := HEL.out; omega) (by have := HBL.out; have := HEL.out; omega) (by rw [World.size_alloc] at hs9; omega) ?_; intro a10 c10 w10 hj10 hg10 hk10 hc10; clear tok2; have HJW := hd (JR.grownK HJ9.out HB9.out (by decide) hg10); have HJB := hd hj10; have HE10 := hd (HE9.out.grown hg10 (by rw [World.size_alloc] at hs9; omega) (fun q hq => JK.blk_ge (k := .u8) (M := 256) (E := 5) HB9.out q hq)); clear hj10 hg10 hk10)))
                go_roundw
                case rel =>
                  refine ⟨k + 1, bs ++ EN, wn ++ [(bs.length, EN.length, ofR r)], hk1, by go_num, HMK2.out, by have := HBL.out; have := HEL.out; rw [List.length_append]; omega, HJB.out, ?_, HE10.out⟩
                  rw [List.map_append, List.map_singleton]
                  exact HJW.out
                case measure => simp [intOf]; omega
              · have HEN : Hid (Calls Try.prog 21 #[.agg #[.int .i64 r.kind, .int .u64 (r.lsn : Int), .int .i64 r.kind, .string r.key, .string r.val, .int .u64 0, .int .i64 0, .int .i64 0, .int .i64 0, .string ⟨#[]⟩, .int .i64 0, .int .i64 0, .int .i64 0, .int .u32 0]] W7 fun e w' => e = .returned (.tuple #[.slice none 0 0, .int .i64 (rf (ofR r) : Int)]) ∧ Below W7.heap.size W7 w') := encF_no (ofR r) W7 hrf
                have hq : (((rf (ofR r) : Nat) : Int) != 0) = true := by simp; exact hrf
                generalize rf (ofR r) = code at *
                clear hrf
                refine Calls.mono HEN.out ?_
                rintro e w8 ⟨rfl, b8⟩
                have HB8 := hd (JK.keepAll (k := .u8) (M := 256) (E := 5) HB7.out b8)
                have HW8 := hd (HW7.out.keepAll b8)
                have HE8 := hd (HE7.out.trans (b8.mono (by omega)))
                clear b8 HEN HB7 HW7 HE7 HF7
                go_wp2_with fail
                go_roundw
                case rel => exact ⟨k + 1, bs, wn, hk1, by go_num, HMK.out, by have := HBL.out; omega, HB8.out, HW8.out, HE8.out⟩
                case measure => simp [intOf]; omega
      · obtain ⟨c0, c1, c2, c3⟩ := HC0.out wr HBE.out
        go_wp2_with fail
        have HOF := hd (of_is r wr)
        rw [show fv (ofR r) = #[.int .i64 r.kind, .int .u64 (r.lsn : Int), .int .i64 r.kind, .string r.key, .string r.val, .int .u64 0, .int .i64 0, .int .i64 0, .int .i64 0, .string ⟨#[]⟩, .int .i64 0, .int .i64 0, .int .i64 0, .int .u32 0] from rfl] at HOF
        refine Calls.mono HOF.out ?_
        rintro e w6 ⟨rfl, hw6⟩
        have hB6 : Below wr.heap.size wr w6 := by rw [hw6]; exact ((Below.refl _ _).alloc (Nat.le_refl _) _).alloc (by simp) _
        have HB6 := hd (JK.keepAll (k := .u8) (M := 256) (E := 5) HBB.out hB6)
        have HW6 := hd (HWW.out.keepAll hB6)
        have HE6 := hd (HBE.out.trans (hB6.mono hsz))
        have hs6 := hB6.size
        clear hw6 hB6 HOF c0 c1 c2 c3
        go_wp2_with fail
        obtain ⟨F, hF⟩ : ∃ F, F = w6.heap.size := ⟨_, rfl⟩
        obtain ⟨W7, hW7⟩ : ∃ W7, W7 = w6.alloc (.cells #[.int .i64 r.kind, .int .u64 (r.lsn : Int), .int .i64 r.kind, .string r.key, .string r.val, .int .u64 0, .int .i64 0, .int .i64 0, .int .i64 0, .string ⟨#[]⟩, .int .i64 0, .int .i64 0, .int .i64 0, .int .u32 0] 36) := ⟨_, rfl⟩
        have hB7 : Below w6.heap.size w6 W7 := by rw [hW7]; exact (Below.refl _ _).alloc (Nat.le_refl _) _
        have HF7 : Hid (Blk W7 F 36 [.int .i64 r.kind, .int .u64 (r.lsn : Int), .int .i64 r.kind, .string r.key, .string r.val, .int .u64 0, .int .i64 0, .int .i64 0, .int .i64 0, .string ⟨#[]⟩, .int .i64 0, .int .i64 0, .int .i64 0, .int .u32 0]) := by rw [hW7, hF]; exact Blk.new w6 _ _
        have HB7 := hd (JK.keepAll (k := .u8) (M := 256) (E := 5) HB6.out hB7)
        have HW7 := hd (HW6.out.keepAll hB7)
        have HE7 := hd (HE6.out.trans (hB7.mono (by omega)))
        have hs7 := hB7.size
        rw [← hW7, ← hF]
        have hFw : w.heap.size ≤ F := by rw [hF]; omega
        clear hW7 hF hB7 HB6 HW6 HE6
        by_cases hrf : rf (ofR r) = 0
        · have HEN : Hid (Calls Try.prog 21 #[.agg #[.int .i64 r.kind, .int .u64 (r.lsn : Int), .int .i64 r.kind, .string r.key, .string r.val, .int .u64 0, .int .i64 0, .int .i64 0, .int .i64 0, .string ⟨#[]⟩, .int .i64 0, .int .i64 0, .int .i64 0, .int .u32 0]] W7 fun e w' => ∃ u, e = .returned (.tuple #[u, .int .i64 0]) ∧ JB w' W7.heap.size u (en (ofR r)) ∧ Below W7.heap.size W7 w') := encF_all ⟨HLK.out, (by decide : (0 : Nat) < 18446744073709551616), (by decide : (0 : Nat) < 4294967296)⟩ hrf W7
          have HMK2 := hd (HMK.out.en (f := ofR r) ⟨HLK.out, (by decide : (0 : Nat) < 18446744073709551616), (by decide : (0 : Nat) < 4294967296)⟩ hrf (ofR_kind hrf))
          have hel : (en (ofR r)).length ≤ 4500 := by
            have h1 := en_len (ofR r)
            have h2 := wr_len (bd (ofR r))
            have h3 := (bd_len (f := ofR r) ⟨HLK.out, (by decide : (0 : Nat) < 18446744073709551616), (by decide : (0 : Nat) < 4294967296)⟩ hrf).1
            omega
          have hep := en_pos (ofR r)
          obtain ⟨EN, hEN⟩ : ∃ EN, EN = en (ofR r) := ⟨_, rfl⟩
          rw [← hEN] at HMK2 hel hep
          simp only [← hEN] at HEN
          clear hEN hrf
          refine Calls.mono HEN.out ?_
          rintro e w8 ⟨x8, rfl, j8, b8⟩
          obtain ⟨xa, xc, rfl, hxc⟩ := JK.shape (k := .u8) (M := 256) (E := 5) j8
          have HX8 := hd j8
          have HF8 := hd (HF7.out.keep b8)
          have HB8 := hd (JK.keepAll (k := .u8) (M := 256) (E := 5) HB7.out b8)
          have HW8 := hd (HW7.out.keepAll b8)
          have hs8 := b8.size
          have HE8 := hd (HE7.out.trans (b8.mono (by omega)))
          clear j8 b8 HEN HB7 HW7 HE7 HF7
          have f0 := HF8.out.cell 0 _ rfl
          have f1 := HF8.out.cell 1 _ rfl
          have f2 := HF8.out.cell 2 _ rfl
          have f3 := HF8.out.cell 3 _ rfl
          have f4 := HF8.out.cell 4 _ rfl
          have f5 := HF8.out.cell 5 _ rfl
          have f6 := HF8.out.cell 6 _ rfl
          have f7 := HF8.out.cell 7 _ rfl
          have f8 := HF8.out.cell 8 _ rfl
          have f9 := HF8.out.cell 9 _ rfl
          have f10 := HF8.out.cell 10 _ rfl
          have f11 := HF8.out.cell 11 _ rfl
          have f12 := HF8.out.cell 12 _ rfl
          have f13 := HF8.out.cell 13 _ rfl
          have hwl2 : wn.length + 1 ≤ 1000000 := by have := HBL.out; omega
          have HWL2 := hd hwl2
          have HEL := hd hel
          have HEP := hd hep
          clear hwl2 hel hep
          have HON : Hid (∀ u ∈ ([.int .i64 r.kind, .int .u64 (r.lsn : Int), .int .i64 r.kind, .string r.key, .string r.val, .int .u64 0, .int .i64 0, .int .i64 0, .int .i64 0, .string ⟨#[]⟩, .int .i64 0, .int .i64 0, .int .i64 0, .int .u32 0, .int .i64 (bs.length : Int), .int .i64 (EN.length : Int)] : List Value), u.oneCell' = true) := lcv_one (bs.length, EN.length, ofR r)
          have tok1 : True := trivial
          go_wp2_with (first
            | (at_builtin; have _t := tok1; (refine wpList_append_jr Try.underlying73 info_lc rfl (by decide) _ rfl _ _ rfl w.heap.size (.slice wa wn.length wc) (wn.map lcv) w8.heap.size 1 [.int .i64 r.kind, .int .u64 (r.lsn : Int), .int .i64 r.kind, .string r.key, .string r.val, .int .u64 0, .int .i64 0, .int .i64 0, .int .i64 0, .string ⟨#[]⟩, .int .i64 0, .int .i64 0, .int .i64 0, .int .u32 0, .int .i64 (bs.length : Int), .int .i64 (EN.length : Int)] rfl rfl (HW8.out.alloc _) rfl HON.out (fun j u hu => cell_lit w8 _ _ j u _ rfl hu) (wn.length + 1) (by rw [List.length_map]) (by have := HWL2.out; omega) (by have := HWL2.out; unfold maxLen; omega) (by rw [World.size_alloc]; omega) ?_; intro g9 c9 w9 hj9 hg9 hw9; clear tok1; have tok2 : True := trivial; have hb9 := JK.grownR (k := .u8) (M := 256) (E := 5) (JK.keepAll (k := .u8) (M := 256) (E := 5) HB8.out ((Below.refl _ _).alloc (Nat.le_refl _) _)) (HW8.out.alloc _) (by decide) hg9; have HJ9 := hd hj9; have HB9 := hd hb9; have HG9 := hd hg9; have hs9 := hg9.size; have he9 := (HE8.out.alloc (by omega) _).grown hg9 (by rw [World.size_alloc]; omega) (fun q hq => HW8.out.blk_ge q hq); have HE9 := hd he9; have HX9 := hd (JK.grownR (k := .u8) (M := 256) (E := 5) (JK.keepAll (k := .u8) (M := 256) (E := 5) HX8.out ((Below.refl _ _).alloc (Nat.le_refl _) _)) (HW8.out.alloc _) (by decide) hg9); clear hj9 hb9 hg9 hw9 he9))
            | (at_builtin; have _t := tok2; (refine wpList_append_jk Try.underlying22 info_u8 _ rfl _ _ rfl w.heap.size (.slice ba bs.length bc) (.slice xa EN.length xc) bs EN rfl rfl HB9.out (JK.isK (k := .u8) (M := 256) (E := 5) HX9.out) (bs.length + EN.length) rfl (bs ++ EN) rfl (by have := HBL.out; have := HEL.out; omega) (by have := HBL.out; have := HEL.out; omega) (by rw [World.size_alloc] at hs9; omega) ?_; intro a10 c10 w10 hj10 hg10 hk10 hc10; clear tok2; have HJW := hd (JR.grownK HJ9.out HB9.out (by decide) hg10); have HJB := hd hj10; have HE10 := hd (HE9.out.grown hg10 (by rw [World.size_alloc] at hs9; omega) (fun q hq => JK.blk_ge (k := .u8) (M := 256) (E := 5) HB9.out q hq)); clear hj10 hg10 hk10)))
          go_roundw
          case rel =>
            refine ⟨k + 1, bs ++ EN, wn ++ [(bs.length, EN.length, ofR r)], hk1, by go_num, HMK2.out, by have := HBL.out; have := HEL.out; rw [List.length_append]; omega, HJB.out, ?_, HE10.out⟩
            rw [List.map_append, List.map_singleton]
            exact HJW.out
          case measure => simp [intOf]; omega
        · have HEN : Hid (Calls Try.prog 21 #[.agg #[.int .i64 r.kind, .int .u64 (r.lsn : Int), .int .i64 r.kind, .string r.key, .string r.val, .int .u64 0, .int .i64 0, .int .i64 0, .int .i64 0, .string ⟨#[]⟩, .int .i64 0, .int .i64 0, .int .i64 0, .int .u32 0]] W7 fun e w' => e = .returned (.tuple #[.slice none 0 0, .int .i64 (rf (ofR r) : Int)]) ∧ Below W7.heap.size W7 w') := encF_no (ofR r) W7 hrf
          have hq : (((rf (ofR r) : Nat) : Int) != 0) = true := by simp; exact hrf
          generalize rf (ofR r) = code at *
          clear hrf
          refine Calls.mono HEN.out ?_
          rintro e w8 ⟨rfl, b8⟩
          have HB8 := hd (JK.keepAll (k := .u8) (M := 256) (E := 5) HB7.out b8)
          have HW8 := hd (HW7.out.keepAll b8)
          have HE8 := hd (HE7.out.trans (b8.mono (by omega)))
          clear b8 HEN HB7 HW7 HE7 HF7
          go_wp2_with fail
          go_roundw
          case rel => exact ⟨k + 1, bs, wn, hk1, by go_num, HMK.out, by have := HBL.out; omega, HB8.out, HW8.out, HE8.out⟩
          case measure => simp [intOf]; omega
    · have hno : ¬ k < rs.length ∨ (k < rs.length ∧ ¬ bs.length < 1000000) := by omega
      clear hgo
      have HBL := hd hbl
      have hno : ¬ k < rs.length ∨ (k < rs.length ∧ decide ((bs.length : Int) < 1000000) = false) := by
        rcases hno with h | ⟨h, h2⟩
        · exact .inl h
        · exact .inr ⟨h, by rw [decide_eq_false_iff_not]; omega⟩
      have hw3 : wn.length ≤ 4611686018427387904 := by omega
      clear hbl
      rcases hno with h1 | ⟨h1, h2⟩
      all_goals
        go_wp2_with fail
        refine Calls.mono (records_nil _ bs _ HBB.out.isB (by have := HBL.out; omega)) ?_
        rintro e w5 ⟨v5, rfl, j5, b5⟩
        rw [HMK.out.recs] at j5
        obtain ⟨ga, gc, rfl, hgc⟩ := j5.shape
        rw [List.length_map] at hgc j5 ⊢
        have HJ5 := hd j5
        have HW5 := hd (HWW.out.keepAll b5)
        have HB5 := hd (HBE.out.trans (b5.mono hsz))
        clear j5 b5
        go_wp2_with fail
        go_loopw [14] (fun i wx => ∃ (t n : Nat), t ≤ wn.length ∧ i = .int .i64 (t : Int) ∧ wx = w5.drewN n) (fun i _ => wn.length - (intOf i).toNat)
        case atStart => exact ⟨0, 0, by omega, rfl, rfl⟩
        case round =>
          obtain ⟨t, n, ht, rfl, hwx⟩ := hrel
          have HWX := hd hwx
          by_cases hlt : t < wn.length
          · as_aux_lemma =>
              have hnn : wn.map lcv ≠ [] := by intro e; rw [List.map_eq_nil_iff] at e; rw [e] at hlt; simp at hlt
              obtain ⟨g5, c5, e5, _, hm5⟩ := HJ5.out.nn hnn
              obtain ⟨g6, c6, e6, _, hm6⟩ := HW5.out.nn hnn
              rw [List.length_map] at e5 e6
              injection e5 with e5a e5b e5c
              injection e6 with e6a e6b e6c
              subst e5a e5c e6a e6c
              obtain ⟨⟨x1, x2, f⟩, hxe⟩ : ∃ x, x = wn[t] := ⟨_, rfl⟩
              have hx : (wn.map lcv)[t]? = some (lcv (x1, x2, f)) := by rw [List.getElem?_map, List.getElem?_eq_getElem hlt, ← hxe]; rfl
              have pA0 : wr.cell? ⟨g5, t * 16, none⟩ = some (.int .i64 f.kind) := by rw [hwx]; exact HJ5.out.at t _ 0 _ hx rfl
              have pA1 : wr.cell? ⟨g5, t * 16 + 1, none⟩ = some (.int .u64 (f.r.lsn : Int)) := by rw [hwx]; exact HJ5.out.at t _ 1 _ hx rfl
              have pA2 : wr.cell? ⟨g5, t * 16 + 2, none⟩ = some (.int .i64 f.r.kind) := by rw [hwx]; exact HJ5.out.at t _ 2 _ hx rfl
              have pA3 : wr.cell? ⟨g5, t * 16 + 3, none⟩ = some (.string f.r.key) := by rw [hwx]; exact HJ5.out.at t _ 3 _ hx rfl
              have pA4 : wr.cell? ⟨g5, t * 16 + 4, none⟩ = some (.string f.r.val) := by rw [hwx]; exact HJ5.out.at t _ 4 _ hx rfl
              have pA5 : wr.cell? ⟨g5, t * 16 + 5, none⟩ = some (.int .u64 (f.p.lsn : Int)) := by rw [hwx]; exact HJ5.out.at t _ 5 _ hx rfl
              have pA6 : wr.cell? ⟨g5, t * 16 + 6, none⟩ = some (.int .i64 f.p.kind) := by rw [hwx]; exact HJ5.out.at t _ 6 _ hx rfl
              have pA7 : wr.cell? ⟨g5, t * 16 + 7, none⟩ = some (.int .i64 f.p.at_) := by rw [hwx]; exact HJ5.out.at t _ 7 _ hx rfl
              have pA8 : wr.cell? ⟨g5, t * 16 + 8, none⟩ = some (.int .i64 f.p.len) := by rw [hwx]; exact HJ5.out.at t _ 8 _ hx rfl
              have pA9 : wr.cell? ⟨g5, t * 16 + 9, none⟩ = some (.string f.p.key) := by rw [hwx]; exact HJ5.out.at t _ 9 _ hx rfl
              have pA10 : wr.cell? ⟨g5, t * 16 + 10, none⟩ = some (.int .i64 f.e.count) := by rw [hwx]; exact HJ5.out.at t _ 10 _ hx rfl
              have pA11 : wr.cell? ⟨g5, t * 16 + 11, none⟩ = some (.int .i64 f.e.bytes) := by rw [hwx]; exact HJ5.out.at t _ 11 _ hx rfl
              have pA12 : wr.cell? ⟨g5, t * 16 + 12, none⟩ = some (.int .i64 f.e.frames) := by rw [hwx]; exact HJ5.out.at t _ 12 _ hx rfl
              have pA13 : wr.cell? ⟨g5, t * 16 + 13, none⟩ = some (.int .u32 (f.e.sum : Int)) := by rw [hwx]; exact HJ5.out.at t _ 13 _ hx rfl
              have pA14 : wr.cell? ⟨g5, t * 16 + 14, none⟩ = some (.int .i64 (x1 : Int)) := by rw [hwx]; exact HJ5.out.at t _ 14 _ hx rfl
              have pA15 : wr.cell? ⟨g5, t * 16 + 15, none⟩ = some (.int .i64 (x2 : Int)) := by rw [hwx]; exact HJ5.out.at t _ 15 _ hx rfl
              have pB0 : wr.cell? ⟨g6, t * 16, none⟩ = some (.int .i64 f.kind) := by rw [hwx]; exact HW5.out.at t _ 0 _ hx rfl
              have pB1 : wr.cell? ⟨g6, t * 16 + 1, none⟩ = some (.int .u64 (f.r.lsn : Int)) := by rw [hwx]; exact HW5.out.at t _ 1 _ hx rfl
              have pB2 : wr.cell? ⟨g6, t * 16 + 2, none⟩ = some (.int .i64 f.r.kind) := by rw [hwx]; exact HW5.out.at t _ 2 _ hx rfl
              have pB3 : wr.cell? ⟨g6, t * 16 + 3, none⟩ = some (.string f.r.key) := by rw [hwx]; exact HW5.out.at t _ 3 _ hx rfl
              have pB4 : wr.cell? ⟨g6, t * 16 + 4, none⟩ = some (.string f.r.val) := by rw [hwx]; exact HW5.out.at t _ 4 _ hx rfl
              have pB5 : wr.cell? ⟨g6, t * 16 + 5, none⟩ = some (.int .u64 (f.p.lsn : Int)) := by rw [hwx]; exact HW5.out.at t _ 5 _ hx rfl
              have pB6 : wr.cell? ⟨g6, t * 16 + 6, none⟩ = some (.int .i64 f.p.kind) := by rw [hwx]; exact HW5.out.at t _ 6 _ hx rfl
              have pB7 : wr.cell? ⟨g6, t * 16 + 7, none⟩ = some (.int .i64 f.p.at_) := by rw [hwx]; exact HW5.out.at t _ 7 _ hx rfl
              have pB8 : wr.cell? ⟨g6, t * 16 + 8, none⟩ = some (.int .i64 f.p.len) := by rw [hwx]; exact HW5.out.at t _ 8 _ hx rfl
              have pB9 : wr.cell? ⟨g6, t * 16 + 9, none⟩ = some (.string f.p.key) := by rw [hwx]; exact HW5.out.at t _ 9 _ hx rfl
              have pB10 : wr.cell? ⟨g6, t * 16 + 10, none⟩ = some (.int .i64 f.e.count) := by rw [hwx]; exact HW5.out.at t _ 10 _ hx rfl
              have pB11 : wr.cell? ⟨g6, t * 16 + 11, none⟩ = some (.int .i64 f.e.bytes) := by rw [hwx]; exact HW5.out.at t _ 11 _ hx rfl
              have pB12 : wr.cell? ⟨g6, t * 16 + 12, none⟩ = some (.int .i64 f.e.frames) := by rw [hwx]; exact HW5.out.at t _ 12 _ hx rfl
              have pB13 : wr.cell? ⟨g6, t * 16 + 13, none⟩ = some (.int .u32 (f.e.sum : Int)) := by rw [hwx]; exact HW5.out.at t _ 13 _ hx rfl
              have pB14 : wr.cell? ⟨g6, t * 16 + 14, none⟩ = some (.int .i64 (x1 : Int)) := by rw [hwx]; exact HW5.out.at t _ 14 _ hx rfl
              have pB15 : wr.cell? ⟨g6, t * 16 + 15, none⟩ = some (.int .i64 (x2 : Int)) := by rw [hwx]; exact HW5.out.at t _ 15 _ hx rfl
              have hne : ∀ ww, (binOp .neq 75 (.agg #[.int .i64 f.kind, .int .u64 (f.r.lsn : Int), .int .i64 f.r.kind, .string f.r.key, .string f.r.val, .int .u64 (f.p.lsn : Int), .int .i64 f.p.kind, .int .i64 f.p.at_, .int .i64 f.p.len, .string f.p.key, .int .i64 f.e.count, .int .i64 f.e.bytes, .int .i64 f.e.frames, .int .u32 (f.e.sum : Int), .int .i64 (x1 : Int), .int .i64 (x2 : Int)]) (.agg #[.int .i64 f.kind, .int .u64 (f.r.lsn : Int), .int .i64 f.r.kind, .string f.r.key, .string f.r.val, .int .u64 (f.p.lsn : Int), .int .i64 f.p.kind, .int .i64 f.p.at_, .int .i64 f.p.len, .string f.p.key, .int .i64 f.e.count, .int .i64 f.e.bytes, .int .i64 f.e.frames, .int .u32 (f.e.sum : Int), .int .i64 (x1 : Int), .int .i64 (x2 : Int)])).run Try.prog ww = .ok (.bool false) ww := fun ww => neq_lc (x1, x2, f) ww
              have HLT : Hid (t + 1 ≤ wn.length) := hlt
              clear hx hxe hnn hm5 hm6 hwx
              go_wp2_with fail
              go_quiet (fail)
              go_wp2_with fail
              go_roundw
              case rel =>
                obtain ⟨q2, h2⟩ := drewN2 w5 n nq
                exact ⟨t + 1, q2, HLT.out, by go_num, by rw [HWX.out]; exact h2⟩
              case measure => have := HLT.out; simp [intOf]; omega
          · obtain rfl : t = wn.length := by omega
            clear hwx
            go_wp2_with fail
            go_ret
            rw [HWX.out]
            exact ⟨rfl, HB5.out.trans ⟨rfl, rfl, rfl, Nat.le_refl _, fun _ _ => rfl⟩⟩
end Vt
end Go.Proofs.Ytbcibgjphjlffaa
