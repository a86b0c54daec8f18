/-
  THE WALKS OF escape.Size, escape.first.
  THE WALKS OF escape.Size, escape.Wrap, escape.Open: what 'wr', 'plain' and 'badB' say, in rows of the call's own.
-/
import Derived.Test.YtabfgoojhangnaaXeab
import Derived.Test.YtabfgoojhangnaaXeah
import Derived.Laws.BytesString
namespace Go.Proofs.Ytabfgoojhangnaa
open Go.RowKit
namespace Vt
def eans (d : Nat × Nat × Nat) : Value := .tuple #[.int .u8 (d.1 : Int), .int .i64 (d.2.1 : Int), .int .i64 (d.2.2 : Int)]
theorem fs_1 {l : List Nat} (h : l.getD 0 0 = 167) : fs l = (0, 0, 31) := by unfold fs; rw [if_pos h]
theorem fs_2 {l : List Nat} (h : l.getD 0 0 ≠ 167) (h2 : l.getD 0 0 ≠ 166) : fs l = (l.getD 0 0, 1, 0) := by unfold fs; rw [if_neg h, if_pos h2]
theorem fs_3 {l : List Nat} (h : l.getD 0 0 = 166) (h2 : l.length = 1) : fs l = (0, 0, 32) := by unfold fs; rw [if_neg (by omega), if_neg (by simpa using h), if_pos h2]
theorem fs_4 {l : List Nat} (h : l.getD 0 0 = 166) (h2 : l.length ≠ 1) : fs l = if l.getD 1 0 = 0 then (166, 2, 0) else if l.getD 1 0 = 1 then (167, 2, 0) else (0, 0, 32) := by unfold fs; rw [if_neg (by omega), if_neg (by simpa using h), if_neg h2]
set_option maxRecDepth 100000 in
set_option maxHeartbeats 400000 in
theorem first_is (b off c : Nat) (l : List Nat) (w : World) (hb : Byt l) (hr : Row w b off l) (hne : l ≠ []) :
    Calls Try.prog 63 #[.slice (some ⟨b, off, none⟩) l.length c] w fun e w' => e = .returned (eans (fs l)) ∧ w' = w := by
  have hpos : 0 < l.length := List.length_pos_iff.2 hne
  have h0 := hr 0 hpos
  rw [Nat.add_zero] at h0
  have hx := getD_lt hb 0
  have hy := getD_lt hb 1
  have h1 : 1 < l.length → w.cell? ⟨b, off + 1, none⟩ = some (.int .u8 ((l.getD 1 0 : Nat) : Int)) := hr 1
  have F1 := hd (@fs_1 l)
  have F2 := hd (@fs_2 l)
  have F3 := hd (@fs_3 l)
  have F4 := hd (@fs_4 l)
  clear hr hb hne
  generalize l.getD 0 0 = x at *
  generalize l.getD 1 0 = y at *
  by_cases c1 : x = 167
  · subst c1
    rw [F1.out rfl]
    go_enter Try.func63, Try.ntmps63
    go_wp2_with fail
    go_ret3
    exact ⟨rfl, rfl⟩
  · by_cases c2 : x = 166
    · subst c2
      by_cases c3 : l.length = 1
      · rw [F3.out rfl c3]
        clear F1 F2 F3 F4 h1
        rw [c3]
        go_enter Try.func63, Try.ntmps63
        go_wp2_with fail
        go_ret3
        exact ⟨rfl, rfl⟩
      · rw [F4.out rfl c3]
        have h2 := h1 (by omega)
        have hl2 : ((l.length : Int) == 1) = false := by simp; omega
        clear F1 F2 F3 F4 h1
        by_cases c4 : y = 0
        · subst c4
          go_enter Try.func63, Try.ntmps63
          go_wp2_with fail
          go_ret3
          exact ⟨rfl, rfl⟩
        · by_cases c5 : y = 1
          · subst c5
            go_enter Try.func63, Try.ntmps63
            go_wp2_with fail
            go_ret3
            exact ⟨rfl, rfl⟩
          · rw [if_neg c4, if_neg c5]
            go_enter Try.func63, Try.ntmps63
            go_wp2_with fail
            go_ret3
            exact ⟨rfl, rfl⟩
    · rw [F2.out c1 c2]
      clear F1 F2 F3 F4 h1
      go_enter Try.func63, Try.ntmps63
      go_wp2_with fail
      go_ret3
      exact ⟨rfl, rfl⟩
end Vt
end Go.Proofs.Ytabfgoojhangnaa
namespace Go.Proofs.Ytabfgoojhangnaa
open Go.RowKit
namespace Vt
set_option maxRecDepth 100000 in
set_option maxHeartbeats 400000 in
theorem esize_row (b off c : Nat) (l : List Nat) (w : World) (hb : Byt l) (hr : Row w b off l) (hm : l.length ≤ 281474976710656) :
    Calls Try.prog 56 #[.slice (some ⟨b, off, none⟩) l.length c] w fun e w' => e = .returned (.int .i64 (((wr l).length : Nat) : Int)) ∧ w' = w := by
  have HR := hd hr
  have HB := hd hb
  clear hr hb
  go_enter Try.func56, Try.ntmps56
  go_wp2_with fail
  go_loop [3, 10] (fun s i => ∃ k n : Nat, k ≤ l.length ∧ i = .int .i64 (k : Int) ∧ s = .int .i64 (n : Int) ∧ n + k = l.length + (wr (l.take k)).length) (fun _ i => l.length - (intOf i).toNat)
  case atStart => exact ⟨0, l.length, by omega, rfl, rfl, by simp [wr]⟩
  case round =>
    obtain ⟨k, n, hk, rfl, rfl, hn⟩ := hrel
    by_cases hlt : k < l.length
    · have hc := HR.out k hlt
      have hx := getD_lt HB.out k
      have hs := congrArg List.length (wr_succ hlt)
      rw [List.length_append] at hs
      have hw := (wr_len (l.take k)).2
      have hw2 := (wr_len (l.take k)).1
      rw [List.length_take, show min k l.length = k by omega] at hw hw2
      generalize l.getD k 0 = x at *
      have HS : Hid (x = 167 → n + 1 + (k + 1) = l.length + (wr (l.take (k + 1))).length) := by
        show x = 167 → _
        intro h; subst h; rw [hs, e1_lead]; simp; omega
      have HS2 : Hid (x = 166 → n + 1 + (k + 1) = l.length + (wr (l.take (k + 1))).length) := by
        show x = 166 → _
        intro h; subst h; rw [hs, e1_esc]; simp; omega
      have HS3 : Hid (x ≠ 167 → x ≠ 166 → n + (k + 1) = l.length + (wr (l.take (k + 1))).length) := by
        show x ≠ 167 → x ≠ 166 → _
        intro h h2; rw [hs, e1_any h h2]; simp; omega
      have hn2 : n ≤ 3 * l.length := by omega
      clear hs hw hw2 hn
      by_cases c1 : x = 167
      · have HZ := hd (HS.out c1)
        subst c1
        clear HS HS2 HS3
        go_wp2_with fail
        go_round
        case rel => exact ⟨k + 1, n + 1, by omega, by go_num, by go_num, HZ.out⟩
        case measure => simp [intOf]; omega
      · by_cases c2 : x = 166
        · have HZ := hd (HS2.out c2)
          subst c2
          clear HS HS2 HS3
          go_wp2_with fail
          go_round
          case rel => exact ⟨k + 1, n + 1, by omega, by go_num, by go_num, HZ.out⟩
          case measure => simp [intOf]; omega
        · have HZ := hd (HS3.out c1 c2)
          have e1 : ((x : Int) == 167) = false := by simp; omega
          have e2 : ((x : Int) == 166) = false := by simp; omega
          clear HS HS2 HS3
          go_wp2_with fail
          go_round
          case rel => exact ⟨k + 1, n, by omega, by go_num, by go_num, HZ.out⟩
          case measure => simp [intOf]; omega
    · obtain rfl : k = l.length := by omega
      have HN : Hid (n = (wr l).length) := by
        show n = (wr l).length
        rw [List.take_length] at hn; omega
      clear hn
      go_wp2
      go_ret
      exact ⟨by rw [HN.out]; rfl, rfl⟩
set_option maxRecDepth 100000 in
set_option maxHeartbeats 400000 in
theorem esize_nil (a : Option Addr) (c : Nat) (w : World) :
    Calls Try.prog 56 #[.slice a 0 c] w fun e w' => e = .returned (.int .i64 0) ∧ w' = w := by
  go_enter Try.func56, Try.ntmps56
  go_wp2_with fail
  go_loop [3, 10] (fun s i => i = .int .i64 0 ∧ s = .int .i64 0) (fun _ _ => 0)
  case atStart => exact ⟨rfl, rfl⟩
  case round =>
    obtain ⟨rfl, rfl⟩ := hrel
    go_wp2
    go_ret
    exact ⟨rfl, rfl⟩
theorem esize_is (v : Value) (l : List Nat) (w : World) (h : IsB w v l) (hm : l.length ≤ 281474976710656) :
    Calls Try.prog 56 #[v] w fun e w' => e = .returned (.int .i64 (((wr l).length : Nat) : Int)) ∧ w' = w := by
  obtain ⟨hl, _, ⟨rfl, a, c, rfl⟩ | ⟨b, off, c, rfl, h1, h2, _, hr⟩⟩ := h
  · exact esize_nil a c w
  · exact esize_row b off c l w hl hr hm
theorem cell_two_new (w : World) (x y : Value) (t : TypeId) : ∀ j u, [x, y][j]? = some u → (w.alloc (.cells #[x, y] t)).cell? ((⟨w.heap.size, 0, none⟩ : Addr).add j) = some u := by
  intro j u hj
  rw [add_at, Nat.zero_add, World.cell?_alloc_new]
  match j, hj with
  | 0, hj => simpa using hj
  | 1, hj => simpa using hj
  | j + 2, hj => simp at hj
theorem jb_snoc2 {w : World} {base : Nat} {a : Option Addr} {n cap x y : Nat} {l : List Nat} (hx : x < 256) (hy : y < 256) (hb : Byt l) (hn : n = l.length) (h : w.ownsRow base 5 1 (.slice a (n + 2) cap) (n + 2) (bs l ++ [.int .u8 (x : Int), .int .u8 (y : Int)])) : JB w base (.slice a (n + 2) cap) (l ++ [x, y]) := by
  refine ⟨byt_app hb (by intro z hz; simp at hz; omega), ?_⟩
  subst hn
  rw [List.length_append, ← bs_app]
  exact h
set_option maxRecDepth 100000 in
set_option maxHeartbeats 400000 in
theorem wrap_row (b off c : Nat) (l : List Nat) (w : World) (hl : Byt l) (hb : b < w.heap.size) (hr : Row w b off l) (hm : l.length ≤ 140737488355328) :
    Calls Try.prog 39 #[.slice (some ⟨b, off, none⟩) l.length c] w fun e w' => e = .returned (.slice (some ⟨w.heap.size, 0, none⟩) (wr l).length (wr l).length) ∧ JB w' w.heap.size (.slice (some ⟨w.heap.size, 0, none⟩) (wr l).length (wr l).length) (wr l) ∧ Below w.heap.size w w' := by
  have HC := hd (esize_row b off c l w hl hr (by omega))
  have hlen := (wr_len l).2
  have HR := hd hr
  have HL := hd hl
  obtain ⟨i0, hi, hz0, hz1, hz2⟩ := info_parts info_u8
  clear hr hl
  generalize hcap : (wr l).length = cap at *
  have HCAP := hd hcap
  clear hcap
  go_enter Try.func39, Try.ntmps39
  go_wp2_with fail
  refine Calls.mono HC.out ?_
  rintro e w' ⟨rfl, rfl⟩
  clear HC
  go_wp2_with (at_make; refine wpList_make_own _ rfl _ _ 22 rfl w'.heap.size 5 i0 (.int .u8 0) 1 Try.underlying22 hi hz0 hz1 .i64 .i64 (cap : Int) cap rfl rfl rfl (by rw [hz2]; omega) (by unfold maxLen; omega) (Nat.le_refl _) ?_; intro w1 hown hgrow)
  have HB1 : Hid (Below w'.heap.size w' w1) := (Below.refl _ _).grown hgrow (Nat.le_refl _) (fun k hk => by cases hk)
  have HO1 : Hid (JB w1 w'.heap.size (.slice (some ⟨w'.heap.size, 0, none⟩) 0 cap) []) := ⟨byt_nil, hown⟩
  clear hown hgrow
  go_loopw [3, 11] (fun v i wr => ∃ k : Nat, k ≤ l.length ∧ i = .int .i64 (k : Int) ∧ v = .slice (some ⟨w'.heap.size, 0, none⟩) (Vt.wr (l.take k)).length cap ∧ JB wr w'.heap.size (.slice (some ⟨w'.heap.size, 0, none⟩) (Vt.wr (l.take k)).length cap) (Vt.wr (l.take k)) ∧ Below w'.heap.size w' wr) (fun _ i _ => l.length - (intOf i).toNat)
  case atStart => exact ⟨0, by omega, rfl, rfl, HO1.out, HB1.out⟩
  case round =>
    clear HO1 HB1
    obtain ⟨k, hk, rfl, rfl, hJ, hB⟩ := hrel
    have HJ := hd hJ
    have HB := hd hB
    clear hJ hB
    by_cases hlt : k < l.length
    · have hc : wr.cell? ⟨b, off + k, none⟩ = some (.int .u8 ((l.getD k 0 : Nat) : Int)) := by
        rw [HB.out.cell hb]; exact HR.out k hlt
      have hx := getD_lt HL.out k
      have HE := hd (wr_succ hlt)
      have hec : (Vt.wr (l.take (k + 1))).length ≤ cap := by
        rw [← HCAP.out]
        have : Vt.wr l = Vt.wr (l.take (k + 1)) ++ Vt.wr (l.drop (k + 1)) := by rw [← wr_append, List.take_append_drop]
        rw [this, List.length_append]; omega
      have hfit : (Vt.wr (l.take k)).length + (e1 (l.getD k 0)).length ≤ cap := by
        have := congrArg List.length HE.out
        rw [List.length_append] at this; omega
      clear hec
      have HO := hd HJ.out.2
      generalize l.getD k 0 = x at *
      generalize henc : Vt.wr (l.take k) = acc at *
      clear henc
      by_cases c1 : x = 167
      · subst c1
        rw [e1_lead] at HE hfit
        have hfit2 : acc.length + 2 ≤ cap := hfit
        clear hfit
        go_wp2_with (at_builtin; refine wpList_append_fits _ rfl _ _ 22 rfl w'.heap.size 5 i0 1 Try.underlying22 hi hz1 w'.heap.size acc.length cap (bs acc) rfl (HO.out.alloc _) ⟨wr.heap.size, 0, none⟩ 2 2 [_, _] rfl rfl (cell_two_new _ _ _ _) (by simp [Value.oneCell']) hfit2 ?_; intro w2 hown2 hgrow2)
        have HO2 := hd (jb_snoc2 (x := 166) (y := 1) (by omega) (by omega) HJ.out.1 rfl hown2)
        have HB2 := hd ((HB.out.alloc HB.out.size _).grown hgrow2 (by have := HB.out.size; simp; omega) (fun k hk => by cases hk; exact Nat.le_refl _))
        rw [← HE.out] at HO2
        have HFL : Hid (acc.length + 2 = (Vt.wr (l.take (k + 1))).length) := by
          show acc.length + 2 = _
          rw [HE.out]; simp
        rw [HFL.out] at HO2
        clear hown2 hgrow2 HO
        rw [HFL.out]
        go_roundw
        case rel => exact ⟨k + 1, by omega, by go_num, rfl, HO2.out, HB2.out⟩
        case measure => simp [intOf]; omega
      · by_cases c2 : x = 166
        · subst c2
          rw [e1_esc] at HE hfit
          have hfit2 : acc.length + 2 ≤ cap := hfit
          clear hfit
          go_wp2_with (at_builtin; refine wpList_append_fits _ rfl _ _ 22 rfl w'.heap.size 5 i0 1 Try.underlying22 hi hz1 w'.heap.size acc.length cap (bs acc) rfl (HO.out.alloc _) ⟨wr.heap.size, 0, none⟩ 2 2 [_, _] rfl rfl (cell_two_new _ _ _ _) (by simp [Value.oneCell']) hfit2 ?_; intro w2 hown2 hgrow2)
          have HO2 := hd (jb_snoc2 (x := 166) (y := 0) (by omega) (by omega) HJ.out.1 rfl hown2)
          have HB2 := hd ((HB.out.alloc HB.out.size _).grown hgrow2 (by have := HB.out.size; simp; omega) (fun k hk => by cases hk; exact Nat.le_refl _))
          rw [← HE.out] at HO2
          have HFL : Hid (acc.length + 2 = (Vt.wr (l.take (k + 1))).length) := by
            show acc.length + 2 = _
            rw [HE.out]; simp
          rw [HFL.out] at HO2
          clear hown2 hgrow2 HO
          rw [HFL.out]
          go_roundw
          case rel => exact ⟨k + 1, by omega, by go_num, rfl, HO2.out, HB2.out⟩
          case measure => simp [intOf]; omega
        · rw [e1_any c1 c2] at HE hfit
          have hfit2 : acc.length + 1 ≤ cap := hfit
          have q1 : ((x : Int) == 167) = false := by simp; omega
          have q2 : ((x : Int) == 166) = false := by simp; omega
          clear hfit
          go_wp2_with (at_builtin; refine wpList_append_fits _ rfl _ _ 22 rfl w'.heap.size 5 i0 1 Try.underlying22 hi hz1 w'.heap.size acc.length cap (bs acc) rfl (HO.out.alloc _) ⟨wr.heap.size, 0, none⟩ 1 1 [_] rfl rfl (cell_one_new _ _ _) (by simp [Value.oneCell']) hfit2 ?_; intro w2 hown2 hgrow2)
          have HO2 := hd (jb_snoc (y := x) rfl hx HJ.out.1 rfl hown2)
          have HB2 := hd ((HB.out.alloc HB.out.size _).grown hgrow2 (by have := HB.out.size; simp; omega) (fun k hk => by cases hk; exact Nat.le_refl _))
          rw [← HE.out] at HO2
          have HFL : Hid (acc.length + 1 = (Vt.wr (l.take (k + 1))).length) := by
            show acc.length + 1 = _
            rw [HE.out]; simp
          rw [HFL.out] at HO2
          clear hown2 hgrow2 HO
          rw [HFL.out]
          go_roundw
          case rel => exact ⟨k + 1, by omega, by go_num, rfl, HO2.out, HB2.out⟩
          case measure => simp [intOf]; omega
    · obtain rfl : k = l.length := by omega
      rw [List.take_length, HCAP.out] at HJ
      go_wp2
      go_ret
      exact ⟨by rw [show (Vt.wr (l.take l.length)).length = cap by rw [List.take_length]; exact HCAP.out]; rfl, HJ.out, HB.out⟩
set_option maxRecDepth 100000 in
set_option maxHeartbeats 400000 in
theorem wrap_nil (a : Option Addr) (c : Nat) (w : World) :
    Calls Try.prog 39 #[.slice a 0 c] w fun e w' => e = .returned (.slice (some ⟨w.heap.size, 0, none⟩) 0 0) ∧ JB w' w.heap.size (.slice (some ⟨w.heap.size, 0, none⟩) 0 0) [] ∧ Below w.heap.size w w' := by
  obtain ⟨i0, hi, hz0, hz1, hz2⟩ := info_parts info_u8
  go_enter Try.func39, Try.ntmps39
  go_wp2_with fail
  refine Calls.mono (esize_nil a c w) ?_
  rintro e w' ⟨rfl, rfl⟩
  go_wp2_with (at_make; refine wpList_make_own _ rfl _ _ 22 rfl w'.heap.size 5 i0 (.int .u8 0) 1 Try.underlying22 hi hz0 hz1 .i64 .i64 0 0 rfl rfl rfl (by rw [hz2]; omega) (by unfold maxLen; omega) (Nat.le_refl _) ?_; intro w1 hown hgrow)
  have HB1 : Hid (Below w'.heap.size w' w1) := (Below.refl _ _).grown hgrow (Nat.le_refl _) (fun k hk => by cases hk)
  have HO1 : Hid (JB w1 w'.heap.size (.slice (some ⟨w'.heap.size, 0, none⟩) 0 0) []) := ⟨byt_nil, hown⟩
  clear hown hgrow
  go_loopw [3, 11] (fun v i wr => i = .int .i64 0 ∧ v = .slice (some ⟨w'.heap.size, 0, none⟩) 0 0 ∧ wr = w1) (fun _ _ _ => 0)
  case atStart => exact ⟨rfl, rfl, rfl⟩
  case round =>
    obtain ⟨rfl, rfl, rfl⟩ := hrel
    go_wp2
    go_ret
    exact ⟨rfl, HO1.out, HB1.out⟩
theorem wrap_is (v : Value) (l : List Nat) (w : World) (h : IsB w v l) (hm : l.length ≤ 140737488355328) :
    Calls Try.prog 39 #[v] w fun e w' => e = .returned (.slice (some ⟨w.heap.size, 0, none⟩) (wr l).length (wr l).length) ∧ JB w' w.heap.size (.slice (some ⟨w.heap.size, 0, none⟩) (wr l).length (wr l).length) (wr l) ∧ Below w.heap.size w w' := by
  obtain ⟨hl, _, ⟨rfl, a, c, rfl⟩ | ⟨b, off, c, rfl, _, _, hb, hr⟩⟩ := h
  · exact wrap_nil a c w
  · exact wrap_row b off c l w hl hb hr hm
end Vt
end Go.Proofs.Ytabfgoojhangnaa
