/-
  THE WALK OF the law's own 'joined' (two lists of bytes, one behind the other).
-/
import Derived.Test.YthlmbojeiffkkabV7
namespace Go.Proofs.Ythlmbojeiffkkab
open Go.RowKit
namespace Vt
set_option maxRecDepth 100000 in
set_option maxHeartbeats 400000 in
theorem joined_is (va vb : Value) (la lb : List Nat) (w : World) (hA : IsB w va la) (hB : IsB w vb lb) (hm : la.length + lb.length ≤ 17592186044416) :
    Calls Try.prog 30 #[va, vb] w fun e w' => ∃ v, e = .returned v ∧ JB w' w.heap.size v (la ++ lb) ∧ Below w.heap.size w w' := by
  obtain ⟨i0, hi, hz0, hz1, hz2⟩ := info_parts info_u8
  by_cases h0 : la.length = 0
  · obtain rfl : la = [] := List.length_eq_zero_iff.1 h0
    obtain ⟨a, ca, rfl⟩ := hA.shape
    rw [List.length_nil, List.nil_append]
    clear hA h0
    by_cases h1 : lb.length = 0
    · obtain rfl : lb = [] := List.length_eq_zero_iff.1 h1
      obtain ⟨b, cb, rfl⟩ := hB.shape
      rw [List.length_nil]
      clear hB h1
      cases a <;> cases b <;> (
        go_enter Try.func30, Try.ntmps30
        go_wp2
        go_ret
        exact ⟨_, rfl, ⟨byt_nil, own_nil _ _⟩, Below.refl _ _⟩)
    · obtain ⟨hbl, hml, ⟨rfl, b, cb, rfl⟩ | ⟨bb, oo, cc, rfl, hlc, hcm, hbb, hrow⟩⟩ := hB
      · simp at h1
      · have hlen : (bs lb).length = lb.length * 1 := by simp [bs]
        cases a <;> (
          go_enter Try.func30, Try.ntmps30
          go_wp2_with (at_builtin; refine wpList_append_lies _ rfl _ _ 22 rfl w.heap.size 5 i0 (.int .u8 0) 1 1 Try.underlying22 hi hz0 hz1 hz2 rfl (by decide) (.slice none 0 0) 0 (bs []) rfl (own_nil _ _) ⟨bb, oo, none⟩ lb.length cc (bs lb) rfl hlen (news_of_row hrow) (bs_one lb) (by omega) (by unfold maxLen; omega) (by omega) (Nat.le_refl _) w.heap.size rfl ?_; intro g cap w2 hown hgrow hat hlt)
          go_ret
          refine ⟨_, rfl, ⟨hbl, ?_⟩, (Below.refl _ _).grown hgrow (Nat.le_refl _) (fun k hk => by simp [Value.ownBlock] at hk)⟩
          have hq := hown
          rw [Nat.zero_add] at hq
          exact hq)
  · obtain ⟨hal, hma, ⟨rfl, a, ca, rfl⟩ | ⟨ba, oa, ca, rfl, hlca, hcma, hba, hrowa⟩⟩ := hA
    · simp at h0
    · have hlena : (bs la).length = la.length * 1 := by simp [bs]
      by_cases h1 : lb.length = 0
      · obtain rfl : lb = [] := List.length_eq_zero_iff.1 h1
        obtain ⟨b, cb, rfl⟩ := hB.shape
        rw [List.length_nil, List.append_nil]
        clear hB h1
        cases b <;> (
          go_enter Try.func30, Try.ntmps30
          go_wp2_with (at_builtin; refine wpList_append_lies _ rfl _ _ 22 rfl w.heap.size 5 i0 (.int .u8 0) 1 1 Try.underlying22 hi hz0 hz1 hz2 rfl (by decide) (.slice none 0 0) 0 (bs []) rfl (own_nil _ _) ⟨ba, oa, none⟩ la.length ca (bs la) rfl hlena (news_of_row hrowa) (bs_one la) (by omega) (by unfold maxLen; omega) (by omega) (Nat.le_refl _) w.heap.size rfl ?_; intro g cap w2 hown hgrow hat hlt; have hcapq : la.length ≤ cap := (by have := own_cap hown; omega))
          go_ret
          refine ⟨_, rfl, ⟨hal, ?_⟩, (Below.refl _ _).grown hgrow (Nat.le_refl _) (fun k hk => by simp [Value.ownBlock] at hk)⟩
          have hq := hown
          rw [Nat.zero_add] at hq
          exact hq)
      · have hB0 := hB
        obtain ⟨hbl, hml, ⟨rfl, b, cb, rfl⟩ | ⟨bb, oo, cc, rfl, hlc, hcm, hbb, hrow⟩⟩ := hB
        · simp at h1
        · have hlen : (bs lb).length = lb.length * 1 := by simp [bs]
          have tok1 : True := trivial
          go_enter Try.func30, Try.ntmps30
          go_wp2_with (first
            | (at_builtin; have _t := tok1; refine wpList_append_lies _ rfl _ _ 22 rfl w.heap.size 5 i0 (.int .u8 0) 1 1 Try.underlying22 hi hz0 hz1 hz2 rfl (by decide) (.slice none 0 0) 0 (bs []) rfl (own_nil _ _) ⟨ba, oa, none⟩ la.length ca (bs la) rfl hlena (news_of_row hrowa) (bs_one la) (by omega) (by unfold maxLen; omega) (by omega) (Nat.le_refl _) w.heap.size rfl ?_; intro g cap w2 hown hgrow hat hlt; clear tok1; have tok2 : True := trivial; have hb2 := (Below.refl w.heap.size w).grown hgrow (Nat.le_refl _) (fun k hk => by simp [Value.ownBlock] at hk); have hrow2 := (hB0.below hb2).row; have hown2 : w2.ownsRow w.heap.size 5 1 (.slice (some ⟨g, 0, none⟩) la.length cap) la.length (bs la) := by (have hq := hown; rw [Nat.zero_add] at hq; exact hq))
            | (at_builtin; have _t := tok2; refine wpList_append_lies _ rfl _ _ 22 rfl w.heap.size 5 i0 (.int .u8 0) 1 1 Try.underlying22 hi hz0 hz1 hz2 rfl (by decide) (.slice (some ⟨g, 0, none⟩) la.length cap) la.length (bs la) rfl hown2 ⟨bb, oo, none⟩ lb.length cc (bs lb) rfl hlen (news_of_row hrow2) (bs_one lb) (by omega) (by unfold maxLen; omega) (by omega) hb2.size w2.heap.size rfl ?_; intro g' cap' w3 hown3 hgrow3 hat3 hlt3; clear tok2))
          go_ret
          refine ⟨_, rfl, ⟨byt_app hal hbl, ?_⟩, hb2.grown hgrow3 hb2.size (fun k hk => by have q := hown2.lt g rfl; simp [Value.ownBlock] at hk; omega)⟩
          rw [bs_app] at hown3
          rw [List.length_append]; exact hown3
end Vt
end Go.Proofs.Ythlmbojeiffkkab
