/-
  THE WALKS OF the document's own Wrap, of the law's turned; the law's book: keep, dry.
-/
import Derived.Test.YtipopjhmjdnnlaaE6
import Derived.Test.YtipopjhmjdnnlaaBk0
namespace Go.Proofs.Ytipopjhmjdnnlaa
open Go.RowKit
namespace Ow
open Vt
abbrev E8 : TypeId := 5
theorem jb_alloc {w : World} {base : Nat} {v : Value} {l : List Nat} (h : JB w base v l) (o : Obj) : JB (w.alloc o) base v l := h.keepAll ((Below.refl _ _).alloc (Nat.le_refl _) o)
theorem jv_of {w : World} {base : Nat} {v : Value} {l : List Nat} (h : JB w base v l) : JV E8 w base v (bs l) := ⟨bs_one l, by rw [bs_len]; exact h.2⟩
theorem jb_of {w : World} {base : Nat} {v : Value} {l : List Nat} (hb : Byt l) (h : JV E8 w base v (bs l)) : JB w base v l := ⟨hb, by have := h.2; rw [bs_len] at this; exact this⟩
set_option maxRecDepth 100000 in
set_option maxHeartbeats 1000000 in
theorem rwrap_is (v : Value) (l : List Nat) (w : World) (hI : IsB w v l) (hm : l.length ≤ 60000000000000) : Calls Try.prog 19 #[v] w fun e w' => (∃ a k, e = .returned (.slice a (wr l).length k) ∧ JB w' w.heap.size (.slice a (wr l).length k) (wr l)) ∧ Below w.heap.size w w' := by
  have HI := hd hI
  obtain ⟨a, c, rfl⟩ := hI.shape
  clear hI
  go_enter Try.func19, Try.ntmps19
  go_wp2_with fail
  go_loopw [3, 4] (fun v i wk => ∃ (k : Nat) (a1 : Option Addr) (c1 : Nat), k ≤ l.length ∧ i = .int .i64 (k : Int) ∧ v = .slice a1 (Vt.wr (l.take k)).length c1 ∧ JB wk w.heap.size v (Vt.wr (l.take k)) ∧ Below w.heap.size w wk) (fun _ i _ => l.length - (intOf i).toNat)
  case atStart => exact ⟨0, none, 0, by omega, rfl, rfl, ⟨byt_nil, own_nil _ _⟩, Below.refl _ _⟩
  case round =>
    obtain ⟨k, a1, c1, hk, rfl, rfl, hJ, hB⟩ := hrel
    obtain ⟨wk, hww⟩ : ∃ wk, wk = wr := ⟨_, rfl⟩
    subst hww
    have HJ := hd hJ
    have HB := hd hB
    clear hJ hB
    by_cases hlt : k < l.length
    · have hki : ((k : Nat) : Int) < (l.length : Int) := by omega
      have hIr := HI.out.below HB.out
      have HSU := hd (wr_succ hlt)
      have HLT : Hid (k + 1 ≤ l.length) := hlt
      have hx := getD_lt HI.out.1 k
      have hwl := (wr_len (l.take k)).2
      rw [List.length_take] at hwl
      obtain ⟨_, _, ⟨e0, _⟩ | ⟨bb, oo, cc, e, hlc, hcm, hbb, hrow⟩⟩ := hIr
      · rw [e0] at hlt; simp at hlt
      · have hcell := hrow k hlt
        injection e with e1' e2 e3
        subst e1' e3
        have HWS := hd HB.out.size
        have hsz := HB.out.size
        clear hrow hk e2
        generalize l.getD k 0 = x at *
        by_cases h1 : x = 167
        · subst h1
          have HE : Hid (Vt.wr (l.take (k + 1)) = Vt.wr (l.take k) ++ [166, 1]) := HSU.out
          go_wp2_with (at_builtin; refine wpList_append_jb _ rfl _ _ rfl w.heap.size _ _ (Vt.wr (l.take k)) [166, 1] rfl rfl (jb_alloc HJ.out _) (lit_isK .u8 256 _ _ 5 [166, 1] 2 rfl (by simp) (by intro y hy; simp at hy; omega) (by simp [maxLen])) (Vt.wr (l.take (k + 1))).length (by rw [HE.out, List.length_append]) (Vt.wr (l.take (k + 1))) HE.out.symm (by rw [HE.out, List.length_append]; simp; omega) (by rw [World.size_alloc]; omega) ?_; intro a2 cap2 w2 hJ2 hg2 hc2)
          have HJ2 := hd hJ2
          have HB2 := hd ((jb_alloc HJ.out _).grown (HB.out.alloc hsz _) (Nat.le_refl _) (by rw [World.size_alloc]; omega) hg2)
          clear hJ2 hg2
          exact ⟨⟨k + 1, a2, cap2, HLT.out, by go_num, rfl, HJ2.out, HB2.out⟩, by simp [intOf]; omega⟩
        · by_cases h2 : x = 166
          · subst h2
            have HE : Hid (Vt.wr (l.take (k + 1)) = Vt.wr (l.take k) ++ [166, 0]) := HSU.out
            go_wp2_with (at_builtin; refine wpList_append_jb _ rfl _ _ rfl w.heap.size _ _ (Vt.wr (l.take k)) [166, 0] rfl rfl (jb_alloc HJ.out _) (lit_isK .u8 256 _ _ 5 [166, 0] 2 rfl (by simp) (by intro y hy; simp at hy; omega) (by simp [maxLen])) (Vt.wr (l.take (k + 1))).length (by rw [HE.out, List.length_append]; try rfl) (Vt.wr (l.take (k + 1))) HE.out.symm (by rw [HE.out, List.length_append]; simp; omega) (by rw [World.size_alloc]; omega) ?_; intro a2 cap2 w2 hJ2 hg2 hc2)
            have HJ2 := hd hJ2
            have HB2 := hd ((jb_alloc HJ.out _).grown (HB.out.alloc hsz _) (Nat.le_refl _) (by rw [World.size_alloc]; omega) hg2)
            clear hJ2 hg2
            exact ⟨⟨k + 1, a2, cap2, HLT.out, by go_num, rfl, HJ2.out, HB2.out⟩, by simp [intOf]; omega⟩
          · have e1 : ((x : Int) == 167) = false := by simp; omega
            have e2 : ((x : Int) == 166) = false := by simp; omega
            have HE : Hid (Vt.wr (l.take (k + 1)) = Vt.wr (l.take k) ++ [x]) := by have := HSU.out; rw [e1_any h1 h2] at this; exact this
            go_wp2_with (at_builtin; refine wpList_append_jb _ rfl _ _ rfl w.heap.size _ _ (Vt.wr (l.take k)) [x] rfl rfl (jb_alloc HJ.out _) (lit_isK .u8 256 _ _ 5 [x] 1 rfl (by simp) (by intro y hy; simp at hy; omega) (by simp [maxLen])) (Vt.wr (l.take (k + 1))).length (by rw [HE.out, List.length_append]; try rfl) (Vt.wr (l.take (k + 1))) HE.out.symm (by rw [HE.out, List.length_append]; simp; omega) (by rw [World.size_alloc]; omega) ?_; intro a2 cap2 w2 hJ2 hg2 hc2)
            have HJ2 := hd hJ2
            have HB2 := hd ((jb_alloc HJ.out _).grown (HB.out.alloc hsz _) (Nat.le_refl _) (by rw [World.size_alloc]; omega) hg2)
            clear hJ2 hg2
            exact ⟨⟨k + 1, a2, cap2, HLT.out, by go_num, rfl, HJ2.out, HB2.out⟩, by simp [intOf]; omega⟩
    · obtain rfl : k = l.length := by omega
      have HE : Hid (Vt.wr (l.take l.length) = Vt.wr l) := by show _ = _; rw [List.take_length]
      rw [HE.out] at HJ
      rw [HE.out]
      go_wp2
      go_ret
      exact ⟨⟨_, _, rfl, HJ.out⟩, HB.out⟩
set_option maxRecDepth 100000 in
set_option maxHeartbeats 1000000 in
theorem turned3_is (g cap m base : Nat) (F : List Nat) (w : World) (hG : Buf w g cap F) (hm : m ≤ F.length) (hbase : base ≤ g) :
    Calls Try.prog 15 #[.slice (some ⟨g, 0, none⟩) m cap] w fun e w' => (∃ v, e = .returned v) ∧ (∃ F', F'.length = F.length ∧ Buf w' g cap F') ∧ Below base w w' := by
  have HG := hd hG
  have hcm : F.length ≤ 9223372036854775807 := by have := hG.1; have := hG.2.1; unfold maxLen at this; omega
  clear hG
  go_enter Try.func15, Try.ntmps15
  go_wp2_with fail
  go_loopw [2] (fun i wr => ∃ k : Nat, k ≤ m ∧ i = .int .i64 (k : Int) ∧ (∃ F', F'.length = F.length ∧ Buf wr g cap F') ∧ Below base w wr) (fun i _ => m - (intOf i).toNat)
  case atStart => exact ⟨0, by omega, rfl, ⟨F, rfl, HG.out⟩, Below.refl _ _⟩
  case round =>
    obtain ⟨k, hk, rfl, ⟨F', hF, hB'⟩, hB⟩ := hrel
    have HF := hd hB'
    have HB := hd hB
    clear hB' hB HG
    by_cases hlt : k < m
    · have hcell := HF.out.cell (j := k) (by omega)
      have hfro := HF.out.2.2.2.2.2 k (by omega)
      have hp := getD_lt HF.out.2.2.2.1 k
      obtain ⟨y, hy⟩ : ∃ y, y = 1 + k % 2 := ⟨_, rfl⟩
      have hy2 : y < 256 := by omega
      have HS := hd (HF.out.set (j := k) (y := F'.getD k 0 ^^^ y) (by omega) (Nat.xor_lt_two_pow (n := 8) hp hy2))
      have HX := hd (u8_xor_nat (F'.getD k 0) y hp hy2)
      generalize F'.getD k 0 = p at *
      have HY := hd hy
      clear hy
      go_wp2_with fail
      rw [show (1 : Int) + (k : Int) % 2 = (y : Int) by rw [HY.out]; omega, HX.out]
      go_roundw
      case rel => exact ⟨k + 1, by omega, by go_num, ⟨_, by rw [List.length_set]; exact hF, HS.out⟩, HB.out.setCell (p := ⟨g, k, none⟩) hbase _⟩
      case measure => simp [intOf]; omega
    · obtain rfl : k = m := by omega
      go_wp2_with fail
      go_end0
      exact ⟨⟨_, rfl⟩, ⟨F', hF, HF.out⟩, HB.out⟩
/-- a held list as a pair of cells; a kept one -/
def hcell (p : Value × List Nat) : Value × Value := (p.1, .string (str p.2))
def kcell (p : Value × Nat × Nat) : Value × Value := (p.1, .int .u8 (p.2.2 : Int))
abbrev TB : TypeId := 27
abbrev TH : TypeId := 41
abbrev TK : TypeId := 43
/-- the book: m marks have been given; hs are held; as are full of their marks -/
structure BK (w : World) (base X m : Nat) (VH VA : Value) (hs : List (Value × List Nat)) (al : List (Value × Nat × Nat)) : Prop where
  box : Blk w X TB [.int .u8 (m : Int), VH, VA]
  hrow : JP TH w base VH (hs.map hcell)
  krow : JP TK w base VA (al.map kcell)
  held : ∀ p ∈ hs, JV E8 w base p.1 (bs p.2) ∧ Byt p.2
  hap : ∀ (i j : Nat) (p q : Value × List Nat) (g : Nat), i ≠ j → hs[i]? = some p → hs[j]? = some q → p.1.ownBlock = some g → q.1.ownBlock ≠ some g
  all : ∀ p ∈ al, JV E8 w base p.1 (List.replicate p.2.1 (.int .u8 (p.2.2 : Int)))
  aap : ∀ p ∈ al, ∀ q ∈ hs, ∀ g, p.1.ownBlock = some g → q.1.ownBlock ≠ some g
theorem BK.keep {w w' : World} {base X m : Nat} {VH VA : Value} {hs : List (Value × List Nat)} {al : List (Value × Nat × Nat)} (h : BK w base X m VH VA hs al) (hb : Below w.heap.size w w') : BK w' base X m VH VA hs al :=
  ⟨h.box.keep hb, h.hrow.below hb, h.krow.below hb, fun p hp => ⟨(h.held p hp).1.below hb, (h.held p hp).2⟩, h.hap, fun p hp => (h.all p hp).below hb, h.aap⟩
end Ow
end Go.Proofs.Ytipopjhmjdnnlaa
