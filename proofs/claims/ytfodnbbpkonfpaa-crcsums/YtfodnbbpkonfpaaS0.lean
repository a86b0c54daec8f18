/-
  THE WALKS OF CrcSums' OWN HELPERS: much, joined, lent, kept.
-/
import Derived.Test.YtfodnbbpkonfpaaB0
import Derived.Test.YtfodnbbpkonfpaaR1
namespace Go.Proofs.Ytfodnbbpkonfpaa
open Go.RowKit
namespace Sums
theorem fl_len {ls : List (List Nat)} {k : Nat} (h : k < ls.length) : ((ls.take (k + 1)).flatten).length = ((ls.take k).flatten).length + (ls.getD k []).length := by
  rw [takes_succ h, List.length_append]
set_option maxRecDepth 100000 in
set_option maxHeartbeats 400000 in
theorem much_nil (a : Option Addr) (c : Nat) (w : World) :
    Calls Try.prog 19 #[.slice a 0 c] w fun e w' => e = .returned (.bool false) ∧ w' = w := by
  go_enter Try.func19, Try.ntmps19
  go_wp2
  go_loop [3, 4] (fun n i => n = .int .i64 0 ∧ i = .int .i64 0) (fun _ _ => 0)
  case atStart => exact ⟨rfl, rfl⟩
  case round =>
    obtain ⟨rfl, rfl⟩ := hrel
    go_wp2
    go_ret
    exact ⟨rfl, rfl⟩
/-- what much answers: where it says no, all parts together are few -/
def MuchPost (ls : List (List Nat)) (e : Ending) : Prop := ∃ m : Bool, e = .returned (.bool m) ∧ (m = false → ls.flatten.length + 16 * ls.length ≤ 4194304)
set_option maxRecDepth 100000 in
set_option maxHeartbeats 400000 in
theorem much_row (b off c : Nat) (ls : List (List Nat)) (w : World) (hm : ls.length ≤ 140737488351232) (hP : IsPs w b off ls) (hR : ∀ i, (ls.getD i []).length ≤ 140737488351232) :
    Calls Try.prog 19 #[.slice (some ⟨b, off, none⟩) ls.length c] w fun e w' => MuchPost ls e ∧ w' = w := by
  have HP := hd hP
  clear hP
  go_enter Try.func19, Try.ntmps19
  go_wp2
  go_loop [3, 4] (fun n i => ∃ k x : Nat, k ≤ ls.length ∧ x = (ls.take k).flatten.length + 16 * k ∧ x ≤ 4194304 + 140737488351232 + 16 ∧ n = .int .i64 (x : Int) ∧ i = .int .i64 (k : Int)) (fun _ i => ls.length - (intOf i).toNat)
  case atStart => exact ⟨0, 0, by omega, by simp, by omega, rfl, rfl⟩
  case round =>
    obtain ⟨k, x, hk, hx, hxb, rfl, rfl⟩ := hrel
    have HX := hd hx
    clear hx
    by_cases hlt : k < ls.length
    · by_cases hr : x ≤ 4194304
      · obtain ⟨v, hv, hB⟩ := HP.out k hlt
        have HL := hd (fl_len hlt)
        have hRk := hR k
        generalize ls.getD k [] = l at *
        obtain ⟨a, c', e⟩ := hB.shape
        rw [e] at hv
        clear hB e
        go_wp2
        go_round
        case rel => exact ⟨k + 1, x + 16 + l.length, by omega, by rw [HL.out, HX.out]; omega, by omega, by go_num, by go_num⟩
        case measure => simp [intOf]; omega
      · have hgt : (4194304 : Int) < (x : Int) := by omega
        go_wp2
        go_ret
        exact ⟨⟨true, rfl, by simp⟩, rfl⟩
    · obtain rfl : k = ls.length := by omega
      rw [List.take_length] at HX
      by_cases hr : x ≤ 4194304
      · have hng : ¬ (4194304 : Int) < (x : Int) := by omega
        go_wp2
        go_ret
        exact ⟨⟨false, rfl, fun _ => by have := HX.out; omega⟩, rfl⟩
      · have hgt : (4194304 : Int) < (x : Int) := by omega
        go_wp2
        go_ret
        exact ⟨⟨true, rfl, by simp⟩, rfl⟩
/-- a list of bytes that the call has joined: nil where there is none -/
def JB (w : World) (base : Nat) (v : Value) (l : List Nat) : Prop := Crc.Byt l ∧ w.ownsRow base 5 1 v l.length (bs l)
theorem JB.isB {w : World} {base : Nat} {v : Value} {l : List Nat} (h : JB w base v l) : IsB w v l := by
  obtain ⟨hb, ho⟩ := h
  by_cases h0 : l.length = 0
  · obtain rfl : l = [] := List.length_eq_zero_iff.1 h0
    rcases ho.2 with ⟨rfl, _⟩ | ⟨g, cap, cur, rfl, _⟩
    · exact isB_nil w
    · exact isB_zero w _ _
  · obtain ⟨g, cap, rfl, _, hlt⟩ := ho.form (by omega)
    exact (buf_of_own hb rfl hlt ho).isB rfl
set_option maxRecDepth 100000 in
set_option maxHeartbeats 400000 in
theorem joined_nil (a : Option Addr) (c : Nat) (w : World) :
    Calls Try.prog 20 #[.slice a 0 c] w fun e w' => e = .returned (.slice none 0 0) ∧ w' = w := by
  go_enter Try.func20, Try.ntmps20
  go_wp2
  go_loop [3, 4] (fun l i => l = .slice none 0 0 ∧ i = .int .i64 0) (fun _ _ => 0)
  case atStart => exact ⟨rfl, rfl⟩
  case round =>
    obtain ⟨rfl, rfl⟩ := hrel
    go_wp2
    go_ret
    exact ⟨rfl, rfl⟩
set_option maxRecDepth 100000 in
set_option maxHeartbeats 400000 in
theorem joined_row (b off c : Nat) (ls : List (List Nat)) (w : World) (hb : b < w.heap.size) (hm : ls.flatten.length + 16 * ls.length ≤ 4194304) (hP : IsPs w b off ls) :
    Calls Try.prog 20 #[.slice (some ⟨b, off, none⟩) ls.length c] w fun e w' => ∃ v, e = .returned v ∧ JB w' w.heap.size v ls.flatten ∧ Below w.heap.size w w' := by
  have HP := hd hP
  clear hP
  obtain ⟨i0, hi, hz0, hz1, hz2⟩ := info_parts info_u8
  go_enter Try.func20, Try.ntmps20
  go_wp2
  go_loopw [3, 4] (fun v i wr => ∃ k : Nat, k ≤ ls.length ∧ i = .int .i64 (k : Int) ∧ JB wr w.heap.size v (ls.take k).flatten ∧ Below w.heap.size w wr) (fun _ i _ => ls.length - (intOf i).toNat)
  case atStart => exact ⟨0, by omega, rfl, ⟨by intro x hx; simp at hx, own_nil _ _⟩, Below.refl _ _⟩
  case round =>
    obtain ⟨k, hk, rfl, hJ, hB⟩ := hrel
    have HJ := hd hJ
    have HB := hd hB
    clear hJ hB
    by_cases hlt : k < ls.length
    · obtain ⟨vk, hv, hIk⟩ := (HP.out.below hb HB.out) k hlt
      have HE := hd (takes_succ hlt)
      have hle : (ls.take (k + 1)).flatten.length ≤ ls.flatten.length := by
        have : ls.flatten = (ls.take (k + 1)).flatten ++ (ls.drop (k + 1)).flatten := by rw [← List.flatten_append, List.take_append_drop]
        rw [this, List.length_append]; omega
      rw [HE.out, List.length_append] at hle
      generalize ls.getD k [] = l at *
      generalize (ls.take k).flatten = acc at *
      by_cases h0 : l.length = 0
      · obtain rfl : l = [] := List.length_eq_zero_iff.1 h0
        obtain ⟨a, cc, rfl⟩ := hIk.shape
        rw [List.length_nil] at hv
        clear hIk h0
        rcases HJ.out.2.2 with ⟨rfl, h0⟩ | ⟨g, cap, cur, rfl, hg, hh, hlc, hcm, hcs, htk⟩
        · have HJ0 : Hid (JB wr w.heap.size (.slice none 0 0) ((ls.take (k + 1)).flatten)) := by rw [HE.out, List.append_nil]; exact HJ.out
          clear HJ
          cases a with
          | none =>
            go_wp2
            go_roundw
            case rel => exact ⟨k + 1, by omega, by go_num, HJ0.out, HB.out⟩
            case measure => simp [intOf]; omega
          | some ad =>
            obtain ⟨ab, ao, asp⟩ := ad
            go_wp2
            go_roundw
            case rel => exact ⟨k + 1, by omega, by go_num, HJ0.out, HB.out⟩
            case measure => simp [intOf]; omega
        · have HJ0 : Hid (JB wr w.heap.size (.slice (some ⟨g, 0, none⟩) acc.length cap) ((ls.take (k + 1)).flatten)) := by rw [HE.out, List.append_nil]; exact HJ.out
          clear HJ hg hh hcs htk
          cases a with
          | none =>
            go_wp2
            go_roundw
            case rel => exact ⟨k + 1, by omega, by go_num, HJ0.out, HB.out⟩
            case measure => simp [intOf]; omega
          | some ad =>
            obtain ⟨ab, ao, asp⟩ := ad
            go_wp2
            go_roundw
            case rel => exact ⟨k + 1, by omega, by go_num, HJ0.out, HB.out⟩
            case measure => simp [intOf]; omega
      · obtain ⟨hbl, hml, ⟨rfl, a, cc, rfl⟩ | ⟨bb, oo, cc, rfl, hlc, hcm, hbb, hrow⟩⟩ := hIk
        · simp at h0
        · have hlen : (bs l).length = l.length * 1 := by simp [bs]
          go_wp2_with (at_builtin; refine wpList_append_lies _ rfl _ _ 22 rfl w.heap.size 5 i0 (.int .u8 0) 1 1 Try.underlying22 hi hz0 hz1 hz2 rfl (by decide) _ acc.length (bs acc) rfl HJ.out.2 ⟨bb, oo, none⟩ l.length cc (bs l) rfl hlen (news_of_row hrow) (bs_one l) (by omega) (by unfold maxLen; omega) (by omega) HB.out.size wr.heap.size rfl ?_; intro g cap w2 hown hgrow hat hlt2)
          go_roundw
          case rel =>
            refine ⟨k + 1, by omega, by go_num, ⟨?_, ?_⟩, HB.out.grown hgrow HB.out.size ?_⟩
            · rw [HE.out]
              intro x hx
              rcases List.mem_append.1 hx with hx | hx
              · exact HJ.out.1 x hx
              · exact hbl x hx
            · rw [HE.out, List.length_append]
              unfold bs at hown ⊢
              rw [List.map_append]; exact hown
            · intro g' hg'
              exact (HJ.out.2.lt g' hg').1
          case measure => simp [intOf]; omega
    · obtain rfl : k = ls.length := by omega
      rw [List.take_length] at HJ
      go_wp2
      go_ret
      exact ⟨_, rfl, HJ.out, HB.out⟩
theorem own_cap {w : World} {base g n cap : Nat} {e : TypeId} {xs : List Value} (h : w.ownsRow base e 1 (.slice (some ⟨g, 0, none⟩) n cap) n xs) : n ≤ cap := by
  obtain ⟨_, ⟨h, _⟩ | ⟨g', cap', cur, h, _, hh, hl, _⟩⟩ := h
  · simp at h
  · injection h with e1 e2 e3
    omega
theorem tail3 (l : List Nat) (h : Crc.Byt l) : Crc.Byt (l ++ [90, 165, 119]) := by
  intro x hx
  rcases List.mem_append.1 hx with hx | hx
  · exact h x hx
  · simp at hx; omega
theorem bs_tail (l : List Nat) : bs l ++ [.int .u8 90, .int .u8 165, .int .u8 119] = bs (l ++ [90, 165, 119]) := by
  unfold bs
  rw [List.map_append]; rfl
theorem three_new (w : World) (t : TypeId) : ∀ j u, [Value.int .u8 90, .int .u8 165, .int .u8 119][j]? = some u → (w.alloc (.cells #[.int .u8 90, .int .u8 165, .int .u8 119] t)).cell? ((⟨w.heap.size, 0, none⟩ : Addr).add j) = some u := by
  intro j u hu
  have hj : j < 3 := (List.getElem?_eq_some_iff.1 hu).1
  have hA : Addr.add ⟨w.heap.size, 0, none⟩ j = ⟨w.heap.size, j, none⟩ := by
    unfold Addr.add; split
    · subst_vars; rfl
    · simp
  rw [hA, World.cell?_alloc_new, ← hu]; simp
theorem three_one : ∀ u ∈ [Value.int .u8 90, .int .u8 165, .int .u8 119], u.oneCell' = true := by
  intro u hu
  simp at hu
  rcases hu with rfl | rfl | rfl <;> rfl
set_option maxRecDepth 100000 in
set_option maxHeartbeats 400000 in
theorem lent_is (v : Value) (l : List Nat) (w : World) (hI : IsB w v l) (hm : l.length ≤ 4194304) :
    Calls Try.prog 21 #[v] w fun e w' => ∃ g cap : Nat, e = .returned (.slice (some ⟨g, 0, none⟩) l.length cap) ∧ Buf w' g cap (l ++ [90, 165, 119]) ∧ w.heap.size ≤ g ∧ Below w.heap.size w w' := by
  obtain ⟨i0, hi, hz0, hz1, hz2⟩ := info_parts info_u8
  by_cases h0 : l.length = 0
  · obtain rfl : l = [] := List.length_eq_zero_iff.1 h0
    obtain ⟨a, cc, rfl⟩ := hI.shape
    rw [List.length_nil]
    clear hI h0
    cases a with
    | none =>
      go_enter Try.func21, Try.ntmps21
      go_wp2_with (at_builtin; refine wpList_append_lies _ rfl _ _ 22 rfl w.heap.size 5 i0 (.int .u8 0) 1 1 Try.underlying22 hi hz0 hz1 hz2 rfl (by decide) (.slice none 0 0) 0 (bs []) rfl (own_nil _ _) ⟨w.heap.size, 0, none⟩ 3 3 [.int .u8 90, .int .u8 165, .int .u8 119] rfl rfl (three_new _ _) three_one (by decide) (by decide) (by decide) (by simp) (w.heap.size + 1) (by simp) ?_; intro g cap w2 hown hgrow hat hlt)
      go_ret
      refine ⟨g, cap, rfl, ?_, ?_, ?_⟩
      · rw [bs_tail] at hown
        exact buf_of_own (tail3 [] (by intro x hx; simp at hx)) rfl hlt hown
      · simp [Value.ownBlock] at hat; omega
      · exact ((Below.refl _ _).alloc (Nat.le_refl _) _).grown hgrow (by simp) (fun k hk => by simp [Value.ownBlock] at hk)
    | some ad =>
      obtain ⟨ab, ao, asp⟩ := ad
      go_enter Try.func21, Try.ntmps21
      go_wp2_with (at_builtin; refine wpList_append_lies _ rfl _ _ 22 rfl w.heap.size 5 i0 (.int .u8 0) 1 1 Try.underlying22 hi hz0 hz1 hz2 rfl (by decide) (.slice none 0 0) 0 (bs []) rfl (own_nil _ _) ⟨w.heap.size, 0, none⟩ 3 3 [.int .u8 90, .int .u8 165, .int .u8 119] rfl rfl (three_new _ _) three_one (by decide) (by decide) (by decide) (by simp) (w.heap.size + 1) (by simp) ?_; intro g cap w2 hown hgrow hat hlt)
      go_ret
      refine ⟨g, cap, rfl, ?_, ?_, ?_⟩
      · rw [bs_tail] at hown
        exact buf_of_own (tail3 [] (by intro x hx; simp at hx)) rfl hlt hown
      · simp [Value.ownBlock] at hat; omega
      · exact ((Below.refl _ _).alloc (Nat.le_refl _) _).grown hgrow (by simp) (fun k hk => by simp [Value.ownBlock] at hk)
  · obtain ⟨hbl, hml, ⟨rfl, a, cc, rfl⟩ | ⟨bb, oo, cc, rfl, hlc, hcm, hbb, hrow⟩⟩ := hI
    · simp at h0
    · have hlen : (bs l).length = l.length * 1 := by simp [bs]
      have hle : l.length ≤ l.length + 3 := by omega
      have tok1 : True := trivial
      go_enter Try.func21, Try.ntmps21
      go_wp2_with (first
        | (at_builtin; have _t := tok1; refine wpList_append_lies _ rfl _ _ 22 rfl w.heap.size 5 i0 (.int .u8 0) 1 1 Try.underlying22 hi hz0 hz1 hz2 rfl (by decide) (.slice none 0 0) 0 (bs []) rfl (own_nil _ _) ⟨bb, oo, none⟩ l.length cc (bs l) rfl hlen (news_of_row hrow) (bs_one l) (by omega) (by unfold maxLen; omega) (by omega) (Nat.le_refl _) w.heap.size rfl ?_; intro g cap w2 hown hgrow hat hlt; clear tok1; have tok2 : True := trivial; have hb2 := (Below.refl w.heap.size w).grown hgrow (Nat.le_refl _) (fun k hk => by simp [Value.ownBlock] at hk); have hown2 : w2.ownsRow w.heap.size 5 1 (.slice (some ⟨g, 0, none⟩) l.length cap) l.length (bs l) := by (have hq := hown; rw [Nat.zero_add] at hq; exact hq))
        | (at_builtin; have _t := tok2; refine wpList_append_lies _ rfl _ _ 22 rfl w.heap.size 5 i0 (.int .u8 0) 1 1 Try.underlying22 hi hz0 hz1 hz2 rfl (by decide) (.slice (some ⟨g, 0, none⟩) l.length cap) l.length (bs l) rfl (hown2.alloc _) ⟨w2.heap.size, 0, none⟩ 3 3 [.int .u8 90, .int .u8 165, .int .u8 119] rfl rfl (three_new _ _) three_one (by decide) (by unfold maxLen; omega) (by omega) (Nat.le_trans hb2.size (by simp)) (w2.heap.size + 1) (by simp) ?_; intro g' cap' w3 hown3 hgrow3 hat3 hlt3; clear tok2; have hcap3 := own_cap hown3; have hcapL : l.length ≤ cap' := Nat.le_trans hle hcap3))
      go_ret
      refine ⟨g', cap', rfl, ?_, ?_, ?_⟩
      · rw [bs_tail] at hown3
        exact buf_of_own (tail3 l hbl) (by simp) hlt3 hown3
      · have := hb2.size
        have q := hown2.lt g rfl
        simp [Value.ownBlock] at hat3; omega
      · exact (hb2.alloc hb2.size _).grown hgrow3 (by have := hb2.size; simp; omega) (fun k hk => by have q := hown2.lt g rfl; simp [Value.ownBlock] at hk; omega)
set_option maxRecDepth 100000 in
set_option maxHeartbeats 400000 in
theorem kept_row (g cap b off c : Nat) (l : List Nat) (w : World) (hG : Buf w g cap (l ++ [90, 165, 119])) (hI : IsB w (.slice (some ⟨b, off, none⟩) l.length c) l) (hm : l.length ≤ 4194304) :
    Calls Try.prog 22 #[.slice (some ⟨g, 0, none⟩) l.length cap, .slice (some ⟨b, off, none⟩) l.length c] w fun e w' => e = .returned (.bool true) ∧ ∃ n, w' = w.drewN n := by
  have HG := hd hG
  have HI := hd hI
  have hl3 : (l ++ [90, 165, 119]).length = l.length + 3 := by simp
  have hcap : l.length + 3 ≤ cap := by have := hG.1; omega
  have hcm := hG.2.1
  unfold maxLen at hcm
  have e0 : (l ++ [90, 165, 119] : List Nat).getD l.length 0 = 90 := by simp [List.getD_eq_getElem?_getD]
  have e1 : (l ++ [90, 165, 119] : List Nat).getD (l.length + 1) 0 = 165 := by simp [List.getD_eq_getElem?_getD]
  have e2 : (l ++ [90, 165, 119] : List Nat).getD (l.length + 2) 0 = 119 := by simp [List.getD_eq_getElem?_getD]
  have c0 := hG.cell (j := l.length) (by omega)
  have c1 := hG.cell (j := l.length + 1) (by omega)
  have c2 := hG.cell (j := l.length + 2) (by omega)
  rw [e0] at c0
  rw [e1] at c1
  rw [e2] at c2
  clear hG hI hl3
  go_enter Try.func22, Try.ntmps22
  go_wp2
  go_loopw [6, 7] (fun o i wr => ∃ k n : Nat, k ≤ l.length ∧ o = .bool true ∧ i = .int .i64 (k : Int) ∧ wr = w.drewN n) (fun _ i _ => l.length - (intOf i).toNat)
  case atStart => exact ⟨0, 0, by omega, rfl, rfl, rfl⟩
  case round =>
    obtain ⟨k, n, hk, rfl, rfl, rfl⟩ := hrel
    by_cases hlt : k < l.length
    · have cg := HG.out.cell (j := k) (by simp; omega)
      have cb := HI.out.row k hlt
      have eg : (l ++ [90, 165, 119] : List Nat).getD k 0 = l.getD k 0 := by simp [List.getD_eq_getElem?_getD, List.getElem?_append, hlt]
      rw [eg] at cg
      clear eg c0 c1 c2 e0 e1 e2
      generalize l.getD k 0 = p at cg cb
      go_wp2
      go_quiet (fail)
      go_wp2
      go_roundw
      case rel => exact ⟨k + 1, _, by omega, rfl, by go_num, rfl⟩
      case measure => simp [intOf]; omega
    · obtain rfl : k = l.length := by omega
      go_wp2
      go_ret
      exact ⟨rfl, n, rfl⟩
set_option maxRecDepth 100000 in
set_option maxHeartbeats 400000 in
theorem kept_nil (g cap c : Nat) (a : Option Addr) (w : World) (hG : Buf w g cap [90, 165, 119]) :
    Calls Try.prog 22 #[.slice (some ⟨g, 0, none⟩) 0 cap, .slice a 0 c] w fun e w' => e = .returned (.bool true) ∧ ∃ n, w' = w.drewN n := by
  have HG := hd hG
  have hcap : 3 ≤ cap := hG.1
  have hcm := hG.2.1
  unfold maxLen at hcm
  have c0 := hG.cell (j := 0) (by simp)
  have c1 := hG.cell (j := 1) (by simp)
  have c2 := hG.cell (j := 2) (by simp)
  rw [show ([90, 165, 119] : List Nat).getD 0 0 = 90 from rfl] at c0
  rw [show ([90, 165, 119] : List Nat).getD 1 0 = 165 from rfl] at c1
  rw [show ([90, 165, 119] : List Nat).getD 2 0 = 119 from rfl] at c2
  clear hG
  go_enter Try.func22, Try.ntmps22
  go_wp2
  go_loopw [6, 7] (fun o i wr => o = .bool true ∧ i = .int .i64 0 ∧ wr = w) (fun _ _ _ => 0)
  case atStart => exact ⟨rfl, rfl, rfl⟩
  case round =>
    obtain ⟨rfl, rfl, rfl⟩ := hrel
    go_wp2
    go_ret
    exact ⟨rfl, 0, rfl⟩
theorem kept_is (g cap : Nat) (v : Value) (l : List Nat) (w : World) (hG : Buf w g cap (l ++ [90, 165, 119])) (hI : IsB w v l) (hm : l.length ≤ 4194304) :
    Calls Try.prog 22 #[.slice (some ⟨g, 0, none⟩) l.length cap, v] w fun e w' => e = .returned (.bool true) ∧ ∃ n, w' = w.drewN n := by
  have hI0 := hI
  obtain ⟨hbl, hml, ⟨rfl, a, cc, rfl⟩ | ⟨bb, oo, cc, rfl, hlc, hcm, hbb, hrow⟩⟩ := hI
  · exact kept_nil g cap cc a w hG
  · exact kept_row g cap bb oo cc l w hG hI0 hm
end Sums
end Go.Proofs.Ytfodnbbpkonfpaa
