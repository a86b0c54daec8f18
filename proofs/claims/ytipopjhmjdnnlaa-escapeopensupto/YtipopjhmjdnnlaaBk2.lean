/-
  THE WALK OF the book's keep (bk2gen.py writes its region).
-/
import Derived.Test.YtipopjhmjdnnlaaBk1
import Derived.Test.YtipopjhmjdnnlaaRg
namespace Go.Proofs.Ytipopjhmjdnnlaa
open Go.RowKit
namespace Ow
open Vt
def apO (ats : Array TypeId) (ty : TypeId) (args : Array Value) : Sem Value := Builtin.append_ ats ty args
theorem append_hid (ats : Array TypeId) (ty : TypeId) (args : Array Value) : Builtin.append_ ats ty args = apO ats ty args := rfl
attribute [local go_sem ↓] append_hid
theorem info_held : (Try.prog.info? TH).map (fun i => (i.zero, i.size, i.bytes)) = some (some (.agg #[.slice none 0 0, .string (str [])]), 2, 40) := by kernel_rfl
theorem info_kept : (Try.prog.info? TK).map (fun i => (i.zero, i.size, i.bytes)) = some (some (.agg #[.slice none 0 0, .int .u8 0]), 2, 32) := by kernel_rfl
theorem JP.drew {T : TypeId} {w : World} {base : Nat} {v : Value} {cs : List (Value × Value)} (h : JP T w base v cs) : JP T w.drew base v cs := h
theorem run_append_jp {T S : TypeId} {z : Value} {by_ : Nat} (hS : Try.prog.underlying S = some (.slice T)) (hE : (Try.prog.info? T).map (fun i => (i.zero, i.size, i.bytes)) = some (some z, 2, by_)) (hz : z.cells.size = 2) (ty : TypeId) (w : World)
    (base : Nat) (v : Value) (cs ds : List (Value × Value)) (ad : Addr) (m c : Nat) (hJ : JP T w base v cs) (hd1 : One ds) (hm : ds.length = m) (hm0 : 0 < m) (hu : ∀ j u, (pc ds)[j]? = some u → w.cell? (ad.add j) = some u) (hb : (cs.length + m) * by_ ≤ 140737488355328) (hb2 : cs.length + m ≤ maxLen) (hbase : base ≤ w.heap.size) :
    ∃ g cap w', (Builtin.append_ #[S, S] ty #[v, .slice (some ad) m c]).run Try.prog w = .ok (.slice (some ⟨g, 0, none⟩) (cs.length + m) cap) w' ∧ JP T w' base (.slice (some ⟨g, 0, none⟩) (cs.length + m) cap) (cs ++ ds) ∧ w.grownBy w' v.ownBlock ∧ (v.ownBlock = some g ∨ g = w.heap.size) := by
  obtain ⟨i0, hi, hz0, hz1, hz2⟩ := info_parts hE
  obtain ⟨g, cap, w', hr, h2, h3, h4, _⟩ := run_append_lies (P := Try.prog) w S ty base T i0 z 2 by_ hS hi hz0 hz1 hz2 hz (by decide) v cs.length (pc cs) hJ.2 ad m c (pc ds) (by rw [pc_len, hm]) hu hd1.cells hm0 hb2 hb hbase w.heap.size rfl
  refine ⟨g, cap, w', hr, ⟨?_, ?_⟩, h3, h4⟩
  · intro p hp
    rcases List.mem_append.1 hp with hp | hp
    · exact hJ.1 p hp
    · exact hd1 p hp
  · rw [List.length_append, hm, ← pc_app]; exact h2
theorem heap_set (w : World) (g j b : Nat) (u : Value) (h : b ≠ g) : (w.setCell ⟨g, j, none⟩ u).heap[b]? = w.heap[b]? := by
  show (w.heap.modify g _)[b]? = _
  rw [Array.getElem?_modify, if_neg (fun e => h e.symm)]
theorem size_set (w : World) (g j : Nat) (u : Value) : (w.setCell ⟨g, j, none⟩ u).heap.size = w.heap.size := by simp [World.setCell]
/-- rows of bytes are as they were -/
def K8 (w w' : World) : Prop := w.heap.size ≤ w'.heap.size ∧ ∀ b, BT w b E8 → w'.heap[b]? = w.heap[b]?
theorem K8.jv {w w' : World} (h : K8 w w') {base : Nat} {v : Value} {xs : List Value} (hv : JV E8 w base v xs) : JV E8 w' base v xs := hv.same fun _ e => h.2 _ (hv.bt e)
set_option maxRecDepth 100000 in
set_option maxHeartbeats 1000000 in
theorem keep_is (base X m : Nat) (VH VA v wv : Value) (hs : List (Value × List Nat)) (al : List (Value × Nat × Nat)) (l : List Nat) (w : World) (hK : BK w base X m VH VA hs al) (hX : base ≤ X) (hW : IsB w wv l) (hV : JV E8 w base v (bs l)) (hl : hs.length ≤ 1000)
    (hn1 : ∀ p ∈ hs, ∀ g, v.ownBlock = some g → p.1.ownBlock ≠ some g) (hn2 : ∀ p ∈ al, ∀ g, p.1.ownBlock = some g → v.ownBlock ≠ some g) :
    Calls Try.prog 14 #[.pointer (some ⟨X, 0, none⟩), v, wv] w fun e w' => (∃ u, e = .returned u) ∧ (∃ VH', BK w' base X m VH' VA (hs ++ [(v, l)]) al) ∧ Below base w w' ∧ K8 w w' := by
  have hmx : Try.prog.follows .mixedOrders = true := by kernel_rfl
  obtain ⟨av, cv, hv, _⟩ := hV.shape
  rw [bs_len] at hv
  subst hv
  have hb0 : base ≤ w.heap.size := Nat.le_of_lt (Nat.lt_of_le_of_lt hX hK.box.lt)
  have hlit : ∀ j u, (pc [(Value.slice av l.length cv, Value.string (str l))])[j]? = some u → ((w.alloc (.cells #[.slice av l.length cv, .string (str l)] TH)).drew).cell? ((⟨w.heap.size, 0, none⟩ : Addr).add j) = some u := by
    intro j u hj
    rw [add_at, Nat.zero_add]
    exact (World.cell?_alloc_new ..).trans (by simpa [pc] using hj)
  obtain ⟨g2, c2, w2, hr2, j2, hg2, hw2⟩ := run_append_jp Try.underlying24 info_held rfl 24 (w.alloc (.cells #[.slice av l.length cv, .string (str l)] TH)).drew base VH (hs.map hcell) [(.slice av l.length cv, .string (str l))] ⟨w.heap.size, 0, none⟩ 1 1 (hK.hrow.below ((Below.refl _ _).alloc (Nat.le_refl _) _)).drew (by intro p hp; simp at hp; subst hp; exact ⟨rfl, rfl⟩) rfl (by decide) hlit (by rw [List.length_map]; omega) (by rw [List.length_map]; unfold maxLen; omega) (by show base ≤ (w.alloc _).heap.size; simp; omega)
  rw [List.length_map] at hr2 j2
  rw [append_hid] at hr2
  obtain ⟨SS, hS0, hS1, hS2, hS3⟩ : ∃ SS : Nat → World, SS 0 = w.drew ∧ SS 1 = (w.alloc (.cells #[.slice av l.length cv, .string (str l)] TH)).drew ∧ SS 2 = w2 ∧ SS 3 = w2.setCell ⟨X, 1, none⟩ (.slice (some ⟨g2, 0, none⟩) (hs.length + 1) c2) := ⟨fun s => match s with | 0 => _ | 1 => _ | 2 => _ | _ => _, rfl, rfl, rfl, rfl⟩
  have C0 : (SS 0).cell? ⟨X, 1, none⟩ = some VH := by rw [hS0]; exact hK.box.cell 1 _ rfl
  have C1 : (SS 1).cell? ⟨X, 1, none⟩ = some VH := by rw [hS1]; exact (hK.box.alloc _).cell 1 _ rfl
  have CV : ∀ s, s ≤ 1 → (convert 22 9 wv).run Try.prog (SS s) = .ok (.string (str l)) (SS s) := by
    intro s hs
    refine conv_is _ _ _ ?_
    obtain rfl | rfl : s = 0 ∨ s = 1 := by omega
    · rw [hS0]; exact hW
    · rw [hS1]; exact (hW.below ((Below.refl w.heap.size w).alloc (Nat.le_refl _) _) : IsB (w.alloc (.cells #[.slice av l.length cv, .string (str l)] TH)) wv l)
  have hbox2 : Blk w2 X TB [.int .u8 (m : Int), VH, VA] := by
    refine Blk.grown (W := (w.alloc (.cells #[.slice av l.length cv, .string (str l)] TH)).drew) (hK.box.alloc _) hg2 fun e => ?_
    exact (blk_bt hK.box).ne (hK.hrow.bt e.symm) (by decide) rfl
  have hfr := hbox2.frozen 1
  have hc2 := hbox2.cell 1 _ rfl
  have hgd : (w.alloc (.cells #[.slice av l.length cv, .string (str l)] TH)).grownBy w2 VH.ownBlock := ⟨hg2.os, hg2.tape, hg2.output, hg2.size, hg2.block⟩
  have hgX : g2 ≠ X := (j2.bt rfl).ne (blk_bt hbox2) (by decide)
  have HFIN : Hid ((∃ VH', BK (w2.setCell ⟨X, 1, none⟩ (.slice (some ⟨g2, 0, none⟩) (hs.length + 1) c2)) base X m VH' VA (hs ++ [(.slice av l.length cv, l)]) al) ∧ Below base w (w2.setCell ⟨X, 1, none⟩ (.slice (some ⟨g2, 0, none⟩) (hs.length + 1) c2)) ∧ K8 w (w2.setCell ⟨X, 1, none⟩ (.slice (some ⟨g2, 0, none⟩) (hs.length + 1) c2))) := by
    have hsz : w.heap.size ≤ w2.heap.size := by have := hgd.size; simp at this; omega
    have hkt : ∀ T, T ≠ TB → T ≠ TH → ∀ b, BT w b T → (w2.setCell ⟨X, 1, none⟩ (.slice (some ⟨g2, 0, none⟩) (hs.length + 1) c2)).heap[b]? = w.heap[b]? := by
      intro T h1 h2 b hb
      have hlt : b < w.heap.size := by obtain ⟨c, hc⟩ := hb; exact (Array.getElem?_eq_some_iff.1 hc).1
      rw [heap_set _ _ _ _ _ (hb.ne (blk_bt hK.box) h1), hgd.block b (by simp; omega) (fun e => hb.ne (hK.hrow.bt e.symm) h2 rfl)]
      exact ((Below.refl w.heap.size w).alloc (Nat.le_refl _) _).block b hlt
    have hk8 : K8 w (w2.setCell ⟨X, 1, none⟩ (.slice (some ⟨g2, 0, none⟩) (hs.length + 1) c2)) := ⟨by rw [size_set]; exact hsz, hkt E8 (by decide) (by decide)⟩
    refine ⟨⟨.slice (some ⟨g2, 0, none⟩) (hs.length + 1) c2, ⟨hbox2.set _, ?_, ?_, ?_, ?_, ?_, ?_⟩⟩, ?_, hk8⟩
    · rw [List.map_append]
      refine j2.same fun g hg => heap_set _ _ _ _ _ fun e => hgX ?_
      have : g2 = g := by simpa [Value.ownBlock] using hg
      omega
    · exact hK.krow.same fun g hg => hkt TK (by decide) (by decide) g (hK.krow.bt hg)
    · intro p hp
      rcases List.mem_append.1 hp with hp | hp
      · exact ⟨hk8.jv (hK.held p hp).1, (hK.held p hp).2⟩
      · simp at hp; subst hp
        exact ⟨hk8.jv hV, hW.1⟩
    · intro i j p q g hij hp hq hg hg'
      rcases Nat.lt_trichotomy i hs.length with hi | hi | hi
      · rw [List.getElem?_append_left hi] at hp
        rcases Nat.lt_trichotomy j hs.length with hj | hj | hj
        · rw [List.getElem?_append_left hj] at hq
          exact hK.hap i j p q g hij hp hq hg hg'
        · rw [List.getElem?_append_right (by omega), hj, Nat.sub_self] at hq
          simp at hq; subst hq
          exact hn1 p (List.mem_of_getElem? hp) g hg' hg
        · rw [List.getElem?_eq_none (by simp; omega)] at hq; cases hq
      · rw [List.getElem?_append_right (by omega), hi, Nat.sub_self] at hp
        simp at hp; subst hp
        rcases Nat.lt_trichotomy j hs.length with hj | hj | hj
        · rw [List.getElem?_append_left hj] at hq
          exact hn1 q (List.mem_of_getElem? hq) g hg hg'
        · omega
        · rw [List.getElem?_eq_none (by simp; omega)] at hq; cases hq
      · rw [List.getElem?_eq_none (by simp; omega)] at hp; cases hp
    · exact fun p hp => hk8.jv (hK.all p hp)
    · intro p hp q hq g hg
      rcases List.mem_append.1 hq with hq | hq
      · exact hK.aap p hp q hq g hg
      · simp at hq; subst hq
        exact hn2 p hp g hg
    · exact (((Below.refl base w).alloc hb0 _).grown hgd (by simp; omega) (fun x hx => hK.hrow.blk_ge x hx)).setCell (p := ⟨X, 1, none⟩) hX _
  clear hbox2 hK hW hV hn1 hn2 j2 hg2 hw2 hlit hgd hgX
  have HS1 := hd hS1
  have HS2 := hd hS2
  have HS3 := hd hS3
  have HS0 := hd hS0
  clear hS0 hS1 hS2 hS3
  go_enter Try.func14, Try.ntmps14
  --REGION
  refine region_chain (fun i => match i with
    | 0 => Value.pointer (some { block := X, off := 0 })
    | 1 => Value.pointer (some { block := X, off := 0 })
    | 2 => Value.pointer (some { block := X, off := 0 })
    | 3 => .pointer (some ⟨X, 1, none⟩)
    | 4 => VH
    | 5 => .slice av l.length cv
    | 6 => wv
    | 7 => .string (str l)
    | 8 => .agg #[.slice av l.length cv, .string (str l)]
    | 9 => .slice (some ⟨w.heap.size, 0, none⟩) 1 1
    | 10 => .slice (some ⟨g2, 0, none⟩) (hs.length + 1) c2
    | 11 => Value.pointer (some { block := X, off := 0 })
    | 12 => .pointer (some ⟨X, 1, none⟩)
    | 13 => undef
    | _ => undef) [9, 10, 13] SS hmx (by kernel_rfl) (by kernel_rfl) (by kernel_rfl) (by kernel_rfl) HS0.out ?_ ?_ (by decide)
  · intro i o ho s a hsr hlo hhi hout haf hun
    have e0 := getq (show a.tmps.getD 0 undef = Value.pointer (some { block := X, off := 0 }) from hout 0 (notDst_spec (by kernel_rfl)))
    have e1 := getq (show a.tmps.getD 1 undef = .slice av l.length cv from hout 1 (notDst_spec (by kernel_rfl)))
    have e2 := getq (show a.tmps.getD 2 undef = wv from hout 2 (notDst_spec (by kernel_rfl)))
    clear hout
    match i, ho, hlo, hhi, haf, hun with
    | 0, ho, hlo, hhi, haf, hun =>
      obtain rfl := Option.some.inj ho
      refine step_c (w' := SS s) rfl fun K hK => ?_
      simp only [List.getElem_toArray, List.getElem_cons_zero] at hK ⊢
      clear haf hlo hhi hun ho hsr
      go_simp
      exact hK
    | 1, ho, hlo, hhi, haf, hun =>
      obtain rfl := Option.some.inj ho
      refine step_c (w' := SS s) rfl fun K hK => ?_
      simp only [List.getElem_toArray, List.getElem_cons_succ, List.getElem_cons_zero] at hK ⊢
      clear haf hlo hhi hun ho hsr
      go_simp
      exact hK
    | 2, ho, hlo, hhi, haf, hun =>
      obtain rfl := Option.some.inj ho
      have f1 := getq (show a.tmps.getD 7 undef = Value.pointer (some { block := X, off := 0 }) from haf ⟨1, .data⟩ (by simp) rfl 7 rfl)
      refine step_c (w' := SS s) rfl fun K hK => ?_
      simp only [List.getElem_toArray, List.getElem_cons_succ, List.getElem_cons_zero] at hK ⊢
      clear haf hlo hhi hun ho hsr
      go_simp
      exact hK
    | 3, ho, hlo, hhi, haf, hun =>
      obtain rfl := Option.some.inj ho
      have f2 := getq (show a.tmps.getD 8 undef = Value.pointer (some { block := X, off := 0 }) from haf ⟨2, .data⟩ (by simp) rfl 8 rfl)
      refine step_c (w' := SS s) rfl fun K hK => ?_
      simp only [List.getElem_toArray, List.getElem_cons_succ, List.getElem_cons_zero] at hK ⊢
      clear haf hlo hhi hun ho hsr
      go_simp
      exact hK
    | 4, ho, hlo, hhi, haf, hun =>
      obtain rfl := Option.some.inj ho
      have f3 := getq (show a.tmps.getD 9 undef = .pointer (some ⟨X, 1, none⟩) from haf ⟨3, .data⟩ (by simp) rfl 9 rfl)
      have hst : s = 0 ∨ s = 1 := by have := hhi 1 (by decide) (.inr (by kernel_rfl)); simp at hsr; omega
      refine step_c (w' := SS s) rfl fun K hK => ?_
      simp only [List.getElem_toArray, List.getElem_cons_succ, List.getElem_cons_zero] at hK ⊢
      clear haf hlo hhi hun ho hsr
      have hc : (SS s).cell? ⟨X, 1, none⟩ = some VH := by rcases hst with rfl | rfl; exact C0; exact C1
      go_simp
      exact hK
    | 5, ho, hlo, hhi, haf, hun =>
      obtain rfl := Option.some.inj ho
      obtain rfl : s = 0 := by have := hhi 0 (by decide) (.inr (by kernel_rfl)); simp at hsr; omega
      refine step_c (w' := SS 0) rfl fun K hK => ?_
      simp only [List.getElem_toArray, List.getElem_cons_succ, List.getElem_cons_zero] at hK ⊢
      clear haf hlo hhi hun ho hsr
      go_simp
      exact hK
    | 6, ho, hlo, hhi, haf, hun =>
      obtain rfl := Option.some.inj ho
      obtain rfl : s = 0 := by have := hhi 0 (by decide) (.inr (by kernel_rfl)); simp at hsr; omega
      refine step_c (w' := SS 0) rfl fun K hK => ?_
      simp only [List.getElem_toArray, List.getElem_cons_succ, List.getElem_cons_zero] at hK ⊢
      clear haf hlo hhi hun ho hsr
      go_simp
      exact hK
    | 7, ho, hlo, hhi, haf, hun =>
      obtain rfl := Option.some.inj ho
      have f6 := getq (show a.tmps.getD 12 undef = wv from haf ⟨6, .data⟩ (by simp) rfl 12 rfl)
      obtain rfl : s = 0 := by have := hhi 0 (by decide) (.inr (by kernel_rfl)); simp at hsr; omega
      refine step_c (w' := SS 0) rfl fun K hK => ?_
      simp only [List.getElem_toArray, List.getElem_cons_succ, List.getElem_cons_zero] at hK ⊢
      clear haf hlo hhi hun ho hsr
      have hc := CV 0 (by omega)
      go_simp
      exact hK
    | 8, ho, hlo, hhi, haf, hun =>
      obtain rfl := Option.some.inj ho
      have f5 := getq (show a.tmps.getD 11 undef = .slice av l.length cv from haf ⟨5, .data⟩ (by simp) rfl 11 rfl)
      have f7 := getq (show a.tmps.getD 13 undef = .string (str l) from haf ⟨7, .data⟩ (by simp) rfl 13 rfl)
      obtain rfl : s = 0 := by have := hhi 0 (by decide) (.inr (by kernel_rfl)); simp at hsr; omega
      refine step_c (w' := SS 0) rfl fun K hK => ?_
      simp only [List.getElem_toArray, List.getElem_cons_succ, List.getElem_cons_zero] at hK ⊢
      clear haf hlo hhi hun ho hsr
      go_simp
      exact hK
    | 9, ho, hlo, hhi, haf, hun =>
      obtain rfl := Option.some.inj ho
      have f8 := getq (show a.tmps.getD 14 undef = .agg #[.slice av l.length cv, .string (str l)] from haf ⟨8, .data⟩ (by simp) rfl 14 rfl)
      obtain rfl : s = 0 := by have := hhi 0 (by decide) (.inl (by kernel_rfl)); omega
      refine step_c (w' := SS 1) rfl fun K hK => ?_
      simp only [List.getElem_toArray, List.getElem_cons_succ, List.getElem_cons_zero] at hK ⊢
      clear haf hlo hhi hun ho hsr
      rw [HS1.out] at hK
      rw [HS0.out]
      go_simp
      exact hK
    | 10, ho, hlo, hhi, haf, hun =>
      obtain rfl := Option.some.inj ho
      have f4 := getq (show a.tmps.getD 10 undef = VH from haf ⟨4, .data⟩ (by simp) rfl 10 rfl)
      have f9 := getq (show a.tmps.getD 15 undef = .slice (some ⟨w.heap.size, 0, none⟩) 1 1 from haf ⟨9, .data⟩ (by simp) rfl 15 rfl)
      obtain rfl : s = 1 := by have := hlo 0 (by decide) (by kernel_rfl); have := hhi 1 (by decide) (.inl (by kernel_rfl)); omega
      refine step_c (w' := SS 2) rfl fun K hK => ?_
      simp only [List.getElem_toArray, List.getElem_cons_succ, List.getElem_cons_zero] at hK ⊢
      clear haf hlo hhi hun ho hsr
      rw [HS2.out] at hK
      rw [HS1.out]
      go_simp
      exact hK
    | 11, ho, hlo, hhi, haf, hun =>
      obtain rfl := Option.some.inj ho
      have f0 := getq (show a.tmps.getD 6 undef = Value.pointer (some { block := X, off := 0 }) from haf ⟨0, .data⟩ (by simp) rfl 6 rfl)
      obtain rfl : s = 2 := by have := hlo 1 (by decide) (by kernel_rfl); have := hhi 2 (by decide) (.inr (by kernel_rfl)); simp at hsr; omega
      refine step_c (w' := SS 2) rfl fun K hK => ?_
      simp only [List.getElem_toArray, List.getElem_cons_succ, List.getElem_cons_zero] at hK ⊢
      clear haf hlo hhi hun ho hsr
      go_simp
      exact hK
    | 12, ho, hlo, hhi, haf, hun =>
      obtain rfl := Option.some.inj ho
      have f11 := getq (show a.tmps.getD 17 undef = Value.pointer (some { block := X, off := 0 }) from haf ⟨11, .data⟩ (by simp) rfl 17 rfl)
      obtain rfl : s = 2 := by have := hlo 1 (by decide) (by kernel_rfl); have := hhi 2 (by decide) (.inr (by kernel_rfl)); simp at hsr; omega
      refine step_c (w' := SS 2) rfl fun K hK => ?_
      simp only [List.getElem_toArray, List.getElem_cons_succ, List.getElem_cons_zero] at hK ⊢
      clear haf hlo hhi hun ho hsr
      go_simp
      exact hK
    | 13, ho, hlo, hhi, haf, hun =>
      obtain rfl := Option.some.inj ho
      have f12 := getq (show a.tmps.getD 18 undef = .pointer (some ⟨X, 1, none⟩) from haf ⟨12, .data⟩ (by simp) rfl 18 rfl)
      have f10 := getq (show a.tmps.getD 16 undef = .slice (some ⟨g2, 0, none⟩) (hs.length + 1) c2 from haf ⟨10, .data⟩ (by simp) rfl 16 rfl)
      obtain rfl : s = 2 := by have := hlo 1 (by decide) (by kernel_rfl); have := hhi 2 (by decide) (.inl (by kernel_rfl)); omega
      refine step_c (w' := SS 3) rfl fun K hK => ?_
      simp only [List.getElem_toArray, List.getElem_cons_succ, List.getElem_cons_zero] at hK ⊢
      clear haf hlo hhi hun ho hsr
      rw [HS3.out] at hK
      rw [HS2.out]
      go_simp
      exact hK
    | n + 14, ho, _, _, _, _ => simp at ho
  · intro aa hdf hsz hout hval
    have hat : aa.tmps = #[Value.pointer (some { block := X, off := 0 }), .slice av l.length cv, wv, undef, undef, undef, Value.pointer (some { block := X, off := 0 }), Value.pointer (some { block := X, off := 0 }), Value.pointer (some { block := X, off := 0 }), .pointer (some ⟨X, 1, none⟩), VH, .slice av l.length cv, wv, .string (str l), .agg #[.slice av l.length cv, .string (str l)], .slice (some ⟨w.heap.size, 0, none⟩) 1 1, .slice (some ⟨g2, 0, none⟩) (hs.length + 1) c2, Value.pointer (some { block := X, off := 0 }), .pointer (some ⟨X, 1, none⟩)] := by
      refine arr_one (hsz.trans rfl) fun kk hkk => ?_
      match kk, hkk with
      | 0, _ => exact hout 0 (notDst_spec (by kernel_rfl))
      | 1, _ => exact hout 1 (notDst_spec (by kernel_rfl))
      | 2, _ => exact hout 2 (notDst_spec (by kernel_rfl))
      | 3, _ => exact hout 3 (notDst_spec (by kernel_rfl))
      | 4, _ => exact hout 4 (notDst_spec (by kernel_rfl))
      | 5, _ => exact hout 5 (notDst_spec (by kernel_rfl))
      | 6, _ => exact hval 0 6 (by decide) rfl
      | 7, _ => exact hval 1 7 (by decide) rfl
      | 8, _ => exact hval 2 8 (by decide) rfl
      | 9, _ => exact hval 3 9 (by decide) rfl
      | 10, _ => exact hval 4 10 (by decide) rfl
      | 11, _ => exact hval 5 11 (by decide) rfl
      | 12, _ => exact hval 6 12 (by decide) rfl
      | 13, _ => exact hval 7 13 (by decide) rfl
      | 14, _ => exact hval 8 14 (by decide) rfl
      | 15, _ => exact hval 9 15 (by decide) rfl
      | 16, _ => exact hval 10 16 (by decide) rfl
      | 17, _ => exact hval 11 17 (by decide) rfl
      | 18, _ => exact hval 12 18 (by decide) rfl
      | n + 19, h => exact absurd h (by simp)
    obtain ⟨tt, dd⟩ := aa
    simp only at hat hdf
    subst hat hdf
    clear hsz hout hval
    rw [show SS [9, 10, 13].length = w2.setCell ⟨X, 1, none⟩ (.slice (some ⟨g2, 0, none⟩) (hs.length + 1) c2) from HS3.out]
    go_end0
    exact ⟨⟨_, rfl⟩, HFIN.out⟩
  --END
end Ow
end Go.Proofs.Ytipopjhmjdnnlaa
