/-
  THE WALKS OF escape.Size, escape.Wrap, escape.Open: what 'wr', 'plain' and 'badB' say, in rows of the call's own.
  THE WALK OF escape.Open: what 'plain' and 'badB' say; the plain bytes lie in a row of the call's own.
-/
import Derived.Test.YtolddolfpnkndaaGreatXuas
namespace Go.Proofs.YtolddolfpnkndaaGreat
open Go.RowKit
namespace Vt
set_option maxRecDepth 100000 in
set_option maxHeartbeats 400000 in
theorem esize_row (b off c : Nat) (l : List Nat) (w : World) (hb : Byt l) (hr : Row w b off l) (hm : l.length ≤ 281474976710656) :
    Calls Tryz.prog 76 #[.slice (some ⟨b, off, none⟩) l.length c] w fun e w' => e = .returned (.int .i64 (((wr l).length : Nat) : Int)) ∧ w' = w := by
  have HR := hd hr
  have HB := hd hb
  clear hr hb
  go_enter Tryz.func76, Tryz.ntmps76
  go_wp2_with fail
  go_loop [3, 10] (fun s i => ∃ k n : Nat, k ≤ l.length ∧ i = .int .i64 (k : Int) ∧ s = .int .i64 (n : Int) ∧ n + k = l.length + (wr (l.take k)).length) (fun _ i => l.length - (intOf i).toNat)
  case atStart => exact ⟨0, l.length, by omega, rfl, rfl, by simp [wr]⟩
  case round =>
    obtain ⟨k, n, hk, rfl, rfl, hn⟩ := hrel
    by_cases hlt : k < l.length
    · have hc := HR.out k hlt
      have hx := getD_lt HB.out k
      have hs := congrArg List.length (wr_succ hlt)
      rw [List.length_append] at hs
      have hw := (wr_len (l.take k)).2
      have hw2 := (wr_len (l.take k)).1
      rw [List.length_take, show min k l.length = k by omega] at hw hw2
      generalize l.getD k 0 = x at *
      have HS : Hid (x = 167 → n + 1 + (k + 1) = l.length + (wr (l.take (k + 1))).length) := by
        show x = 167 → _
        intro h; subst h; rw [hs, e1_lead]; simp; omega
      have HS2 : Hid (x = 166 → n + 1 + (k + 1) = l.length + (wr (l.take (k + 1))).length) := by
        show x = 166 → _
        intro h; subst h; rw [hs, e1_esc]; simp; omega
      have HS3 : Hid (x ≠ 167 → x ≠ 166 → n + (k + 1) = l.length + (wr (l.take (k + 1))).length) := by
        show x ≠ 167 → x ≠ 166 → _
        intro h h2; rw [hs, e1_any h h2]; simp; omega
      have hn2 : n ≤ 3 * l.length := by omega
      clear hs hw hw2 hn
      by_cases c1 : x = 167
      · have HZ := hd (HS.out c1)
        subst c1
        clear HS HS2 HS3
        go_wp2_with fail
        go_round
        case rel => exact ⟨k + 1, n + 1, by omega, by go_num, by go_num, HZ.out⟩
        case measure => simp [intOf]; omega
      · by_cases c2 : x = 166
        · have HZ := hd (HS2.out c2)
          subst c2
          clear HS HS2 HS3
          go_wp2_with fail
          go_round
          case rel => exact ⟨k + 1, n + 1, by omega, by go_num, by go_num, HZ.out⟩
          case measure => simp [intOf]; omega
        · have HZ := hd (HS3.out c1 c2)
          have e1 : ((x : Int) == 167) = false := by simp; omega
          have e2 : ((x : Int) == 166) = false := by simp; omega
          clear HS HS2 HS3
          go_wp2_with fail
          go_round
          case rel => exact ⟨k + 1, n, by omega, by go_num, by go_num, HZ.out⟩
          case measure => simp [intOf]; omega
    · obtain rfl : k = l.length := by omega
      have HN : Hid (n = (wr l).length) := by
        show n = (wr l).length
        rw [List.take_length] at hn; omega
      clear hn
      go_wp2
      go_ret
      exact ⟨by rw [HN.out]; rfl, rfl⟩
set_option maxRecDepth 100000 in
set_option maxHeartbeats 400000 in
theorem esize_nil (a : Option Addr) (c : Nat) (w : World) :
    Calls Tryz.prog 76 #[.slice a 0 c] w fun e w' => e = .returned (.int .i64 0) ∧ w' = w := by
  go_enter Tryz.func76, Tryz.ntmps76
  go_wp2_with fail
  go_loop [3, 10] (fun s i => i = .int .i64 0 ∧ s = .int .i64 0) (fun _ _ => 0)
  case atStart => exact ⟨rfl, rfl⟩
  case round =>
    obtain ⟨rfl, rfl⟩ := hrel
    go_wp2
    go_ret
    exact ⟨rfl, rfl⟩
theorem cell_two_new (w : World) (x y : Value) (t : TypeId) : ∀ j u, [x, y][j]? = some u → (w.alloc (.cells #[x, y] t)).cell? ((⟨w.heap.size, 0, none⟩ : Addr).add j) = some u := by
  intro j u hj
  rw [add_at, Nat.zero_add, World.cell?_alloc_new]
  match j, hj with
  | 0, hj => simpa using hj
  | 1, hj => simpa using hj
  | j + 2, hj => simp at hj
theorem jb_snoc2 {w : World} {base : Nat} {a : Option Addr} {n cap x y : Nat} {l : List Nat} (hx : x < 256) (hy : y < 256) (hb : Byt l) (hn : n = l.length) (h : w.ownsRow base 5 1 (.slice a (n + 2) cap) (n + 2) (bs l ++ [.int .u8 (x : Int), .int .u8 (y : Int)])) : JB w base (.slice a (n + 2) cap) (l ++ [x, y]) := by
  refine ⟨byt_app hb (by intro z hz; simp at hz; omega), ?_⟩
  subst hn
  rw [List.length_append, ← bs_app]
  exact h
set_option maxRecDepth 100000 in
set_option maxHeartbeats 400000 in
theorem wrap_row (b off c : Nat) (l : List Nat) (w : World) (hl : Byt l) (hb : b < w.heap.size) (hr : Row w b off l) (hm : l.length ≤ 140737488355328) :
    Calls Tryz.prog 49 #[.slice (some ⟨b, off, none⟩) l.length c] w fun e w' => e = .returned (.slice (some ⟨w.heap.size, 0, none⟩) (wr l).length (wr l).length) ∧ JB w' w.heap.size (.slice (some ⟨w.heap.size, 0, none⟩) (wr l).length (wr l).length) (wr l) ∧ Below w.heap.size w w' := by
  have HC := hd (esize_row b off c l w hl hr (by omega))
  have hlen := (wr_len l).2
  have HR := hd hr
  have HL := hd hl
  obtain ⟨i0, hi, hz0, hz1, hz2⟩ := info_parts info_u8
  clear hr hl
  generalize hcap : (wr l).length = cap at *
  have HCAP := hd hcap
  clear hcap
  go_enter Tryz.func49, Tryz.ntmps49
  go_wp2_with fail
  refine Calls.mono HC.out ?_
  rintro e w' ⟨rfl, rfl⟩
  clear HC
  go_wp2_with (at_make; refine wpList_make_own _ rfl _ _ 49 rfl w'.heap.size 5 i0 (.int .u8 0) 1 Tryz.underlying49 hi hz0 hz1 .i64 .i64 (cap : Int) cap rfl rfl rfl (by rw [hz2]; omega) (by unfold maxLen; omega) (Nat.le_refl _) ?_; intro w1 hown hgrow)
  have HB1 : Hid (Below w'.heap.size w' w1) := (Below.refl _ _).grown hgrow (Nat.le_refl _) (fun k hk => by cases hk)
  have HO1 : Hid (JB w1 w'.heap.size (.slice (some ⟨w'.heap.size, 0, none⟩) 0 cap) []) := ⟨byt_nil, hown⟩
  clear hown hgrow
  go_loopw [3, 11] (fun v i wr => ∃ k : Nat, k ≤ l.length ∧ i = .int .i64 (k : Int) ∧ v = .slice (some ⟨w'.heap.size, 0, none⟩) (Vt.wr (l.take k)).length cap ∧ JB wr w'.heap.size (.slice (some ⟨w'.heap.size, 0, none⟩) (Vt.wr (l.take k)).length cap) (Vt.wr (l.take k)) ∧ Below w'.heap.size w' wr) (fun _ i _ => l.length - (intOf i).toNat)
  case atStart => exact ⟨0, by omega, rfl, rfl, HO1.out, HB1.out⟩
  case round =>
    clear HO1 HB1
    obtain ⟨k, hk, rfl, rfl, hJ, hB⟩ := hrel
    have HJ := hd hJ
    have HB := hd hB
    clear hJ hB
    by_cases hlt : k < l.length
    · have hc : wr.cell? ⟨b, off + k, none⟩ = some (.int .u8 ((l.getD k 0 : Nat) : Int)) := by
        rw [HB.out.cell hb]; exact HR.out k hlt
      have hx := getD_lt HL.out k
      have HE := hd (wr_succ hlt)
      have hec : (Vt.wr (l.take (k + 1))).length ≤ cap := by
        rw [← HCAP.out]
        have : Vt.wr l = Vt.wr (l.take (k + 1)) ++ Vt.wr (l.drop (k + 1)) := by rw [← wr_append, List.take_append_drop]
        rw [this, List.length_append]; omega
      have hfit : (Vt.wr (l.take k)).length + (e1 (l.getD k 0)).length ≤ cap := by
        have := congrArg List.length HE.out
        rw [List.length_append] at this; omega
      clear hec
      have HO := hd HJ.out.2
      generalize l.getD k 0 = x at *
      generalize henc : Vt.wr (l.take k) = acc at *
      clear henc
      by_cases c1 : x = 167
      · subst c1
        rw [e1_lead] at HE hfit
        have hfit2 : acc.length + 2 ≤ cap := hfit
        clear hfit
        go_wp2_with (at_builtin; refine wpList_append_fits _ rfl _ _ 49 rfl w'.heap.size 5 i0 1 Tryz.underlying49 hi hz1 w'.heap.size acc.length cap (bs acc) rfl (HO.out.alloc _) ⟨wr.heap.size, 0, none⟩ 2 2 [_, _] rfl rfl (cell_two_new _ _ _ _) (by simp [Value.oneCell']) hfit2 ?_; intro w2 hown2 hgrow2)
        have HO2 := hd (jb_snoc2 (x := 166) (y := 1) (by omega) (by omega) HJ.out.1 rfl hown2)
        have HB2 := hd ((HB.out.alloc HB.out.size _).grown hgrow2 (by have := HB.out.size; simp; omega) (fun k hk => by cases hk; exact Nat.le_refl _))
        rw [← HE.out] at HO2
        have HFL : Hid (acc.length + 2 = (Vt.wr (l.take (k + 1))).length) := by
          show acc.length + 2 = _
          rw [HE.out]; simp
        rw [HFL.out] at HO2
        clear hown2 hgrow2 HO
        rw [HFL.out]
        go_roundw
        case rel => exact ⟨k + 1, by omega, by go_num, rfl, HO2.out, HB2.out⟩
        case measure => simp [intOf]; omega
      · by_cases c2 : x = 166
        · subst c2
          rw [e1_esc] at HE hfit
          have hfit2 : acc.length + 2 ≤ cap := hfit
          clear hfit
          go_wp2_with (at_builtin; refine wpList_append_fits _ rfl _ _ 49 rfl w'.heap.size 5 i0 1 Tryz.underlying49 hi hz1 w'.heap.size acc.length cap (bs acc) rfl (HO.out.alloc _) ⟨wr.heap.size, 0, none⟩ 2 2 [_, _] rfl rfl (cell_two_new _ _ _ _) (by simp [Value.oneCell']) hfit2 ?_; intro w2 hown2 hgrow2)
          have HO2 := hd (jb_snoc2 (x := 166) (y := 0) (by omega) (by omega) HJ.out.1 rfl hown2)
          have HB2 := hd ((HB.out.alloc HB.out.size _).grown hgrow2 (by have := HB.out.size; simp; omega) (fun k hk => by cases hk; exact Nat.le_refl _))
          rw [← HE.out] at HO2
          have HFL : Hid (acc.length + 2 = (Vt.wr (l.take (k + 1))).length) := by
            show acc.length + 2 = _
            rw [HE.out]; simp
          rw [HFL.out] at HO2
          clear hown2 hgrow2 HO
          rw [HFL.out]
          go_roundw
          case rel => exact ⟨k + 1, by omega, by go_num, rfl, HO2.out, HB2.out⟩
          case measure => simp [intOf]; omega
        · rw [e1_any c1 c2] at HE hfit
          have hfit2 : acc.length + 1 ≤ cap := hfit
          have q1 : ((x : Int) == 167) = false := by simp; omega
          have q2 : ((x : Int) == 166) = false := by simp; omega
          clear hfit
          go_wp2_with (at_builtin; refine wpList_append_fits _ rfl _ _ 49 rfl w'.heap.size 5 i0 1 Tryz.underlying49 hi hz1 w'.heap.size acc.length cap (bs acc) rfl (HO.out.alloc _) ⟨wr.heap.size, 0, none⟩ 1 1 [_] rfl rfl (cell_one_new _ _ _) (by simp [Value.oneCell']) hfit2 ?_; intro w2 hown2 hgrow2)
          have HO2 := hd (jb_snoc (y := x) rfl hx HJ.out.1 rfl hown2)
          have HB2 := hd ((HB.out.alloc HB.out.size _).grown hgrow2 (by have := HB.out.size; simp; omega) (fun k hk => by cases hk; exact Nat.le_refl _))
          rw [← HE.out] at HO2
          have HFL : Hid (acc.length + 1 = (Vt.wr (l.take (k + 1))).length) := by
            show acc.length + 1 = _
            rw [HE.out]; simp
          rw [HFL.out] at HO2
          clear hown2 hgrow2 HO
          rw [HFL.out]
          go_roundw
          case rel => exact ⟨k + 1, by omega, by go_num, rfl, HO2.out, HB2.out⟩
          case measure => simp [intOf]; omega
    · obtain rfl : k = l.length := by omega
      rw [List.take_length, HCAP.out] at HJ
      go_wp2
      go_ret
      exact ⟨by rw [show (Vt.wr (l.take l.length)).length = cap by rw [List.take_length]; exact HCAP.out]; rfl, HJ.out, HB.out⟩
set_option maxRecDepth 100000 in
set_option maxHeartbeats 400000 in
theorem wrap_nil (a : Option Addr) (c : Nat) (w : World) :
    Calls Tryz.prog 49 #[.slice a 0 c] w fun e w' => e = .returned (.slice (some ⟨w.heap.size, 0, none⟩) 0 0) ∧ JB w' w.heap.size (.slice (some ⟨w.heap.size, 0, none⟩) 0 0) [] ∧ Below w.heap.size w w' := by
  obtain ⟨i0, hi, hz0, hz1, hz2⟩ := info_parts info_u8
  go_enter Tryz.func49, Tryz.ntmps49
  go_wp2_with fail
  refine Calls.mono (esize_nil a c w) ?_
  rintro e w' ⟨rfl, rfl⟩
  go_wp2_with (at_make; refine wpList_make_own _ rfl _ _ 49 rfl w'.heap.size 5 i0 (.int .u8 0) 1 Tryz.underlying49 hi hz0 hz1 .i64 .i64 0 0 rfl rfl rfl (by rw [hz2]; omega) (by unfold maxLen; omega) (Nat.le_refl _) ?_; intro w1 hown hgrow)
  have HB1 : Hid (Below w'.heap.size w' w1) := (Below.refl _ _).grown hgrow (Nat.le_refl _) (fun k hk => by cases hk)
  have HO1 : Hid (JB w1 w'.heap.size (.slice (some ⟨w'.heap.size, 0, none⟩) 0 0) []) := ⟨byt_nil, hown⟩
  clear hown hgrow
  go_loopw [3, 11] (fun v i wr => i = .int .i64 0 ∧ v = .slice (some ⟨w'.heap.size, 0, none⟩) 0 0 ∧ wr = w1) (fun _ _ _ => 0)
  case atStart => exact ⟨rfl, rfl, rfl⟩
  case round =>
    obtain ⟨rfl, rfl, rfl⟩ := hrel
    go_wp2
    go_ret
    exact ⟨rfl, HO1.out, HB1.out⟩
theorem wrap_is (v : Value) (l : List Nat) (w : World) (h : IsB w v l) (hm : l.length ≤ 140737488355328) :
    Calls Tryz.prog 49 #[v] w fun e w' => e = .returned (.slice (some ⟨w.heap.size, 0, none⟩) (wr l).length (wr l).length) ∧ JB w' w.heap.size (.slice (some ⟨w.heap.size, 0, none⟩) (wr l).length (wr l).length) (wr l) ∧ Below w.heap.size w w' := by
  obtain ⟨hl, _, ⟨rfl, a, c, rfl⟩ | ⟨b, off, c, rfl, _, _, hb, hr⟩⟩ := h
  · exact wrap_nil a c w
  · exact wrap_row b off c l w hl hb hr hm
end Vt
end Go.Proofs.YtolddolfpnkndaaGreat
namespace Go.Proofs.YtolddolfpnkndaaGreat
open Go.RowKit
namespace Vt
/-- what Open gives -/
def opn (l : List Nat) : List Nat := if (badB 0 l).1 = 0 then plain l else []
def OpenPost (w : World) (l : List Nat) (e : Ending) (w' : World) : Prop := ∃ u, e = .returned (.tuple #[u, .int .i64 ((badB 0 l).1 : Int), .int .i64 ((badB 0 l).2 : Int)]) ∧ JB w' w.heap.size u (opn l) ∧ Below w.heap.size w w'
set_option maxRecDepth 100000 in
set_option maxHeartbeats 400000 in
theorem open_row (b off c : Nat) (l : List Nat) (w : World) (hb : Byt l) (hbw : b < w.heap.size) (hr : Row w b off l) (hlc : l.length ≤ c) (hm : l.length ≤ 281474976710656) :
    Calls Tryz.prog 92 #[.slice (some ⟨b, off, none⟩) l.length c] w (OpenPost w l) := by
  obtain ⟨i0, hi, hz0, hz1, hz2⟩ := info_parts info_u8
  have HR := hd hr
  have HB := hd hb
  clear hr hb
  go_enter Tryz.func92, Tryz.ntmps92
  go_wp2_with (at_make; refine wpList_make_own _ rfl _ _ 49 rfl w.heap.size 5 i0 (.int .u8 0) 1 Tryz.underlying49 hi hz0 hz1 .i64 .i64 (l.length : Int) l.length rfl rfl rfl (by rw [hz2]; omega) (by unfold maxLen; omega) (Nat.le_refl _) ?_; intro w1 hown hgrow)
  have HB1 : Hid (Below w.heap.size w w1) := (Below.refl _ _).grown hgrow (Nat.le_refl _) (fun k hk => by cases hk)
  have HO1 : Hid (JB w1 w.heap.size (.slice (some ⟨w.heap.size, 0, none⟩) 0 l.length) []) := ⟨byt_nil, hown⟩
  clear hown hgrow
  go_loopw [5, 6] (fun v i wr => ∃ (at_ : Nat) (pt : List (Nat × Nat)), at_ ≤ l.length ∧ i = .int .i64 (at_ : Int) ∧ toldB 0 l = pt ++ toldB at_ (l.drop at_) ∧ badB 0 l = badB at_ (l.drop at_) ∧ v = .slice (some ⟨w.heap.size, 0, none⟩) pt.length l.length ∧ JB wr w.heap.size (.slice (some ⟨w.heap.size, 0, none⟩) pt.length l.length) (pt.map Prod.snd) ∧ Below w.heap.size w wr) (fun _ i _ => l.length - (intOf i).toNat)
  case atStart => exact ⟨0, [], by omega, rfl, rfl, rfl, rfl, HO1.out, HB1.out⟩
  case round =>
    clear HO1 HB1
    obtain ⟨at_, pt, hat, rfl, hto, hba, rfl, hJ, hBB⟩ := hrel
    have HTO := hd hto
    have HBA := hd hba
    have HJ := hd hJ
    have HBB := hd hBB
    clear hto hba hJ hBB
    by_cases hlt : at_ < l.length
    · have hne : ¬ c = at_ := by omega
      have hlat : (l.drop at_).length = l.length - at_ := List.length_drop
      have hne0 : l.drop at_ ≠ [] := by intro e; have := congrArg List.length e; rw [hlat] at this; simp at this; omega
      have HC := hd (first_is b (off + at_) (c - at_) (l.drop at_) wr (byt_drop HB.out at_) (fun k hk => by
        rw [hlat] at hk
        rw [HBB.out.cell hbw, Nat.add_assoc, HR.out (at_ + k) (by omega), List.getD_eq_getElem?_getD, List.getD_eq_getElem?_getD, List.getElem?_drop]) hne0)
      rw [hlat] at HC
      have hby := fs_byt (byt_drop HB.out at_)
      obtain ⟨d1, d2, d3, hdd⟩ : ∃ d1 d2 d3, fs (l.drop at_) = (d1, d2, d3) := ⟨_, _, _, rfl⟩
      rw [hdd] at HC hby
      simp only at hby
      unfold eans at HC
      by_cases he : d3 = 0
      · have hk := fs_len hne0 (by rw [hdd]; exact he)
        rw [hdd, hlat] at hk
        simp only at hk
        have hok := toldB_ok (at_ := at_) hne0 (by rw [hdd]; exact he)
        have hbk := badB_ok (at_ := at_) hne0 (by rw [hdd]; exact he)
        rw [hdd] at hok hbk
        simp only [List.drop_drop] at hok hbk
        have hlen2 : pt.length + 1 ≤ l.length := by
          have h1 := toldB_len 0 l
          rw [HTO.out, hok] at h1
          simp at h1; omega
        have HOK := hd hok
        have HBK := hd hbk
        subst he
        clear hok hbk hdd hne0
        have HO : Hid (wr.ownsRow w.heap.size 5 1 (.slice (some ⟨w.heap.size, 0, none⟩) pt.length l.length) pt.length (bs (pt.map Prod.snd))) := by
          have := HJ.out.2
          rw [List.length_map] at this; exact this
        go_wp2_with fail
        refine Calls.mono HC.out ?_
        rintro e w' ⟨rfl, hw'⟩
        clear HC
        subst hw'
        go_wp2_with (at_builtin; refine wpList_append_fits _ rfl _ _ 49 rfl w.heap.size 5 i0 1 Tryz.underlying49 hi hz1 w.heap.size pt.length l.length (bs (pt.map Prod.snd)) rfl (HO.out.alloc _) ⟨w'.heap.size, 0, none⟩ 1 1 [_] rfl rfl (cell_one_new _ _ _) (by simp [Value.oneCell']) hlen2 ?_; intro w2 hown2 hgrow2)
        have HO2 := hd (jb_snoc (y := d1) rfl hby HJ.out.1 (by rw [List.length_map]) hown2)
        have HB2 := hd ((HBB.out.alloc HBB.out.size _).grown hgrow2 (by have := HBB.out.size; simp; omega) (fun k hk => by cases hk; exact Nat.le_refl _))
        clear hown2 hgrow2 HO
        go_roundw
        case rel =>
          refine ⟨at_ + d2, pt ++ [(at_, d1)], by omega, by go_num, by rw [HTO.out, HOK.out, List.append_assoc]; rfl, by rw [HBA.out, HBK.out], by rw [List.length_append]; rfl, ?_, HB2.out⟩
          rw [List.map_append, List.length_append]
          exact HO2.out
        case measure => simp [intOf]; omega
      · have herr := badB_err (at_ := at_) hne0 (by rw [hdd]; exact he)
        rw [hdd] at herr
        have HER : Hid (badB 0 l = (d3, at_)) := HBA.out.trans herr
        have HOP : Hid (opn l = []) := by
          show opn l = []
          unfold opn; rw [HER.out, if_neg he]
        have he2 : ((d3 : Int) != 0) = true := by simp; omega
        clear herr hdd hne0
        go_wp2_with fail
        refine Calls.mono HC.out ?_
        rintro e w' ⟨rfl, hw'⟩
        clear HC
        subst hw'
        go_wp2_with fail
        go_ret3
        refine ⟨_, by rw [HER.out]; rfl, ?_, HBB.out⟩
        rw [HOP.out]; exact ⟨byt_nil, own_nil _ _⟩
    · obtain rfl : at_ = l.length := by omega
      rw [List.drop_length] at HTO HBA
      have HER : Hid (badB 0 l = (0, 0)) := HBA.out.trans (badB_nil _)
      have HPL : Hid (pt.map Prod.snd = opn l) := by
        show pt.map Prod.snd = opn l
        unfold opn plain; rw [HER.out, if_pos rfl, HTO.out, toldB_nil, List.append_nil]
      rw [HPL.out] at HJ
      go_wp2_with fail
      go_ret3
      exact ⟨_, by rw [HER.out]; rfl, HJ.out, HBB.out⟩
set_option maxRecDepth 100000 in
set_option maxHeartbeats 400000 in
theorem open_nil (a : Option Addr) (c : Nat) (w : World) : Calls Tryz.prog 92 #[.slice a 0 c] w (OpenPost w []) := by
  obtain ⟨i0, hi, hz0, hz1, hz2⟩ := info_parts info_u8
  go_enter Tryz.func92, Tryz.ntmps92
  go_wp2_with (at_make; refine wpList_make_own _ rfl _ _ 49 rfl w.heap.size 5 i0 (.int .u8 0) 1 Tryz.underlying49 hi hz0 hz1 .i64 .i64 0 0 rfl rfl rfl (by rw [hz2]; omega) (by unfold maxLen; omega) (Nat.le_refl _) ?_; intro w1 hown hgrow)
  have HB1 : Hid (Below w.heap.size w w1) := (Below.refl _ _).grown hgrow (Nat.le_refl _) (fun k hk => by cases hk)
  have HO1 : Hid (JB w1 w.heap.size (.slice (some ⟨w.heap.size, 0, none⟩) 0 0) []) := ⟨byt_nil, hown⟩
  clear hown hgrow
  go_loopw [5, 6] (fun v i wr => i = .int .i64 0 ∧ v = .slice (some ⟨w.heap.size, 0, none⟩) 0 0 ∧ wr = w1) (fun _ _ _ => 0)
  case atStart => exact ⟨rfl, rfl, rfl⟩
  case round =>
    obtain ⟨rfl, rfl, rfl⟩ := hrel
    go_wp2
    go_ret3
    exact ⟨_, rfl, HO1.out, HB1.out⟩
theorem open_is (v : Value) (l : List Nat) (w : World) (h : IsB w v l) (hm : l.length ≤ 281474976710656) : Calls Tryz.prog 92 #[v] w (OpenPost w l) := by
  obtain ⟨hl, _, ⟨rfl, a, c, rfl⟩ | ⟨b, off, c, rfl, h1, _, hb, hr⟩⟩ := h
  · exact open_nil a c w
  · exact open_row b off c l w hl hb hr h1 hm
end Vt
end Go.Proofs.YtolddolfpnkndaaGreat
