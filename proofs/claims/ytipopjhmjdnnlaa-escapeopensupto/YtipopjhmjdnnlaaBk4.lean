/-
  THE BOOK'S settle, plainly: what is known while the lists are written full and made longer.
-/
import Derived.Test.YtipopjhmjdnnlaaBk3
namespace Go.Proofs.Ytipopjhmjdnnlaa
open Go.RowKit
namespace Ow
open Vt
/-- the book without what is held -/
structure SK (w : World) (base X n : Nat) (VH VA : Value) (hs : List (Value × List Nat)) (al : List (Value × Nat × Nat)) : Prop where
  box : Blk w X TB [.int .u8 (n : Int), VH, VA]
  hrow : JP TH w base VH (hs.map hcell)
  krow : JP TK w base VA (al.map kcell)
  all : ∀ p ∈ al, JV E8 w base p.1 (List.replicate p.2.1 (.int .u8 (p.2.2 : Int)))
section
variable {w w' : World} {base X n m : Nat} {VH VA : Value} {hs : List (Value × List Nat)} {al : List (Value × Nat × Nat)}
theorem BK.sk (h : BK w base X m VH VA hs al) : SK w base X m VH VA hs al := ⟨h.box, h.hrow, h.krow, h.all⟩
theorem SK.same (h : SK w base X n VH VA hs al) (hT : ∀ b T, T ≠ E8 → BT w b T → w'.heap[b]? = w.heap[b]?) (hA : ∀ p ∈ al, ∀ b, p.1.ownBlock = some b → w'.heap[b]? = w.heap[b]?) : SK w' base X n VH VA hs al :=
  ⟨(hT X TB (by decide) (blk_bt h.box)).trans h.box, h.hrow.same fun g e => hT g TH (by decide) (h.hrow.bt e), h.krow.same fun g e => hT g TK (by decide) (h.krow.bt e), fun p hp => (h.all p hp).same fun g e => hA p hp g e⟩
theorem SK.keep (h : SK w base X n VH VA hs al) (hb : Below w.heap.size w w') : SK w' base X n VH VA hs al :=
  ⟨h.box.keep hb, h.hrow.below hb, h.krow.below hb, fun p hp => (h.all p hp).below hb⟩
/-- the entries of lists written full -/
def ent (m : Nat) (hs : List (Value × List Nat)) : List (Value × Nat × Nat) := hs.zipIdx.map fun x => (x.1.1, x.1.2.length, m + 1 + x.2)
theorem ent_len (m : Nat) (hs : List (Value × List Nat)) : (ent m hs).length = hs.length := by simp [ent]
theorem ent_at {i : Nat} {p : Value × List Nat} (h : hs[i]? = some p) : (ent m hs)[i]? = some (p.1, p.2.length, m + 1 + i) := by simp [ent, List.getElem?_zipIdx, h]
theorem ent_of {i : Nat} {q : Value × Nat × Nat} (h : (ent m hs)[i]? = some q) : ∃ p, hs[i]? = some p ∧ q = (p.1, p.2.length, m + 1 + i) := by
  have hi : i < hs.length := by rw [← ent_len m hs]; exact (List.getElem?_eq_some_iff.1 h).1
  refine ⟨hs[i], List.getElem?_eq_getElem hi, ?_⟩
  rw [ent_at (List.getElem?_eq_getElem hi)] at h
  injection h with h
  exact h.symm
theorem ent_take {k : Nat} {p : Value × List Nat} (h : hs[k]? = some p) : (ent m hs).take (k + 1) = (ent m hs).take k ++ [(p.1, p.2.length, m + 1 + k)] := by
  rw [List.take_add_one, ent_at h]; rfl
theorem ent_mem {k : Nat} {q : Value × Nat × Nat} (h : q ∈ (ent m hs).take k) : ∃ s p, s < k ∧ hs[s]? = some p ∧ q = (p.1, p.2.length, m + 1 + s) := by
  obtain ⟨s, hs1, hs2⟩ := List.getElem_of_mem h
  have hlt : s < k := by rw [List.length_take] at hs1; omega
  have : (ent m hs)[s]? = some q := by
    rw [List.getElem_take] at hs2
    rw [← hs2]; exact List.getElem?_eq_getElem _
  obtain ⟨p, h1, h2⟩ := ent_of this
  exact ⟨s, p, hlt, h1, h2⟩
theorem rep_put (k : Nat) (u : Value) (xs : List Value) (h : k < xs.length) : (List.replicate k u ++ xs.drop k).set k u = List.replicate (k + 1) u ++ xs.drop (k + 1) := by
  rw [List.set_append_right _ _ (by simp), List.length_replicate, Nat.sub_self]
  rw [List.drop_eq_getElem_cons h, List.set_cons_zero, List.replicate_succ', List.append_assoc]
  rfl
end
/-- what does not turn in a settle: who is apart from whom -/
structure Ap (hs : List (Value × List Nat)) (al : List (Value × Nat × Nat)) : Prop where
  hap : ∀ (i j : Nat) (p q : Value × List Nat) (g : Nat), i ≠ j → hs[i]? = some p → hs[j]? = some q → p.1.ownBlock = some g → q.1.ownBlock ≠ some g
  aap : ∀ p ∈ al, ∀ q ∈ hs, ∀ g, p.1.ownBlock = some g → q.1.ownBlock ≠ some g
/-- k lists have been written full and noted; of the next one kk bytes are written (n marks given) -/
structure P1 (w : World) (base X m : Nat) (VH : Value) (hs : List (Value × List Nat)) (al : List (Value × Nat × Nat)) (n k : Nat) (VA : Value) (w' : World) : Prop where
  sk : SK w' base X n VH VA hs (al ++ (ent m hs).take k)
  rest : ∀ s p, k ≤ s → hs[s]? = some p → JV E8 w' base p.1 (bs p.2)
  below : Below base w w'
structure P1i (w : World) (base X m : Nat) (VH : Value) (hs : List (Value × List Nat)) (al : List (Value × Nat × Nat)) (k : Nat) (v : Value) (l : List Nat) (VA : Value) (kk : Nat) (w' : World) : Prop where
  sk : SK w' base X (m + 1 + k) VH VA hs (al ++ (ent m hs).take k)
  rest : ∀ s p, k + 1 ≤ s → hs[s]? = some p → JV E8 w' base p.1 (bs p.2)
  cur : JV E8 w' base v (List.replicate kk (.int .u8 ((m + 1 + k : Nat) : Int)) ++ (bs l).drop kk)
  below : Below base w w'
section
variable {w w' : World} {base X n m k : Nat} {VH VA : Value} {hs : List (Value × List Nat)} {al : List (Value × Nat × Nat)}
theorem P1.mark (h : P1 w base X m VH hs al (m + k) k VA w') (hX : base ≤ X) {v : Value} {l : List Nat} (hk : hs[k]? = some (v, l)) : P1i w base X m VH hs al k v l VA 0 (w'.setCell ⟨X, 0, none⟩ (.int .u8 ((m + 1 + k : Nat) : Int))) := by
  have hne : ∀ b T, T ≠ TB → BT w' b T → (w'.setCell ⟨X, 0, none⟩ (.int .u8 ((m + 1 + k : Nat) : Int))).heap[b]? = w'.heap[b]? := fun b T hT hb => heap_set _ _ _ _ _ (hb.ne (blk_bt h.sk.box) hT)
  have hv : ∀ {v : Value} {xs : List Value}, JV E8 w' base v xs → JV E8 (w'.setCell ⟨X, 0, none⟩ (.int .u8 ((m + 1 + k : Nat) : Int))) base v xs := fun hj => hj.same fun g e => hne g E8 (by decide) (hj.bt e)
  exact ⟨⟨h.sk.box.set _, h.sk.hrow.same fun g e => hne g TH (by decide) (h.sk.hrow.bt e), h.sk.krow.same fun g e => hne g TK (by decide) (h.sk.krow.bt e), fun p hp => hv (h.sk.all p hp)⟩, fun s p hs' hp => hv (h.rest s p (by omega) hp), hv (by simpa using h.rest k _ (Nat.le_refl _) hk), h.below.setCell (p := ⟨X, 0, none⟩) hX _⟩
theorem P1i.put {v : Value} {l : List Nat} {kk : Nat} (h : P1i w base X m VH hs al k v l VA kk w') (ha : Ap hs al) (hk : hs[k]? = some (v, l)) (hkk : kk < l.length) {g c : Nat} (hv : v = .slice (some ⟨g, 0, none⟩) l.length c) : P1i w base X m VH hs al k v l VA (kk + 1) (w'.setCell ⟨g, kk, none⟩ (.int .u8 ((m + 1 + k : Nat) : Int))) := by
  have hlen : (List.replicate kk (Value.int .u8 ((m + 1 + k : Nat) : Int)) ++ (bs l).drop kk).length = l.length := by simp [bs_len]; omega
  have hcur := h.cur
  rw [hv] at hcur
  have hgb : BT w' g E8 := hcur.bt rfl
  have hvb : v.ownBlock = some g := by rw [hv]; rfl
  refine ⟨h.sk.same (fun b T hT hb => heap_set _ _ _ _ _ (hb.ne hgb hT)) (fun p hp b hb => heap_set _ _ _ _ _ fun e => ?_), fun s p hs' hp => ?_, ?_, h.below.setCell (p := ⟨g, kk, none⟩) (h.cur.blk_ge g hvb) _⟩
  · subst e
    rcases List.mem_append.1 hp with hp | hp
    · exact ha.aap p hp _ (List.mem_of_getElem? hk) b hb hvb
    · obtain ⟨s, q, hs1, hs2, rfl⟩ := ent_mem hp
      exact ha.hap s k q _ b (by omega) hs2 hk hb hvb
  · refine (h.rest s p hs' hp).same fun b hb => heap_set _ _ _ _ _ fun e => ?_
    subst e
    exact ha.hap s k p _ b (by omega) hp hk hb hvb
  · have := hcur.set (j := kk) hlen.symm (u := .int .u8 ((m + 1 + k : Nat) : Int)) rfl
    rw [rep_put _ _ _ (by rw [bs_len]; exact hkk)] at this
    rw [hv]; exact this
/-- the list, written full, is noted -/
theorem P1i.note {v : Value} {l : List Nat} {o : Obj} {w2 : World} {V2 : Value} (h : P1i w base X m VH hs al k v l VA l.length w') (hX : base ≤ X) (hk : hs[k]? = some (v, l))
    (hg : (w'.alloc o).grownBy w2 VA.ownBlock) (hj : JP TK w2 base V2 ((al ++ (ent m hs).take k).map kcell ++ [(v, .int .u8 ((m + 1 + k : Nat) : Int))])) : P1 w base X m VH hs al (m + 1 + k) (k + 1) V2 (w2.setCell ⟨X, 2, none⟩ V2) := by
  have hal : ∀ b, b < w'.heap.size → (w'.alloc o).heap[b]? = w'.heap[b]? := fun b hb => ((Below.refl w'.heap.size w').alloc (Nat.le_refl _) o).block b hb
  have hb0 : base ≤ w'.heap.size := Nat.le_of_lt (Nat.lt_of_le_of_lt hX h.sk.box.lt)
  have h2 : ∀ b T, T ≠ TK → BT w' b T → w2.heap[b]? = w'.heap[b]? := by
    intro b T hT hb
    have hlt : b < w'.heap.size := by obtain ⟨c, hc⟩ := hb; exact (Array.getElem?_eq_some_iff.1 hc).1
    rw [hg.block b (by simp; omega) (fun e => hb.ne (h.sk.krow.bt e.symm) hT rfl), hal b hlt]
  have h3 : ∀ b T, T ≠ TK → T ≠ TB → BT w' b T → (w2.setCell ⟨X, 2, none⟩ V2).heap[b]? = w'.heap[b]? := fun b T hT hT' hb => (heap_set _ _ _ _ _ (hb.ne (blk_bt h.sk.box) hT')).trans (h2 b T hT hb)
  have hv : ∀ {v : Value} {xs : List Value}, JV E8 w' base v xs → JV E8 (w2.setCell ⟨X, 2, none⟩ V2) base v xs := fun hj => hj.same fun g e => h3 g E8 (by decide) (by decide) (hj.bt e)
  have hbox2 : Blk w2 X TB [.int .u8 ((m + 1 + k : Nat) : Int), VH, VA] := (h2 X TB (by decide) (blk_bt h.sk.box)).trans h.sk.box
  refine ⟨⟨hbox2.set _, h.sk.hrow.same fun g e => h3 g TH (by decide) (by decide) (h.sk.hrow.bt e), ?_, ?_⟩, fun s p hs' hp => hv (h.rest s p hs' hp), ?_⟩
  · rw [ent_take hk, ← List.append_assoc, List.map_append]
    exact hj.same fun g e => heap_set _ _ _ _ _ (hj.bt e |>.ne (blk_bt hbox2) (by decide))
  · intro p hp
    rw [ent_take hk, ← List.append_assoc] at hp
    rcases List.mem_append.1 hp with hp | hp
    · exact hv (h.sk.all p hp)
    · simp at hp
      subst hp
      have := h.cur
      rw [show (bs l).drop l.length = [] by rw [← bs_len l]; exact List.drop_length, List.append_nil] at this
      exact hv this
  · exact ((h.below.alloc (by have := h.below.size; exact hb0) _).grown hg (by simp; omega) (fun x hx => h.sk.krow.blk_ge x hx)).setCell (p := ⟨X, 2, none⟩) hX _
end
/-- t of the lists have been made longer -/
structure P2 (w : World) (base X m : Nat) (VH : Value) (hs : List (Value × List Nat)) (al : List (Value × Nat × Nat)) (t : Nat) (VA : Value) (prs : List (Value × Nat × Nat)) (w' : World) : Prop where
  sk : SK w' base X (m + hs.length) VH VA hs (al ++ ent m hs ++ prs)
  len : prs.length = 2 * t
  apart : ∀ p ∈ prs, ∀ s q, t ≤ s → hs[s]? = some q → ∀ g, p.1.ownBlock = some g → q.1.ownBlock ≠ some g
  below : Below base w w'
section
variable {w w' : World} {base X n m k t : Nat} {VH VA : Value} {hs : List (Value × List Nat)} {al prs : List (Value × Nat × Nat)}
theorem P1.two (h : P1 w base X m VH hs al (m + hs.length) hs.length VA w') : P2 w base X m VH hs al 0 VA [] w' :=
  ⟨by have := h.sk; rw [List.take_of_length_le (by rw [ent_len]; exact Nat.le_refl _)] at this; rw [List.append_nil]; exact this, rfl, (fun p hp => by cases hp), h.below⟩
theorem app_blk {W w1 : World} {o : Obj} {v g : Value} {xs : List Value} {u : Value} (hp : AppPost E8 (W.alloc o) base v xs u g w1) : (∀ b, b < W.heap.size → some b ≠ v.ownBlock → w1.heap[b]? = W.heap[b]?) ∧ (g.ownBlock = v.ownBlock ∨ ∃ b, g.ownBlock = some b ∧ W.heap.size ≤ b) := by
  refine ⟨fun b hb hne => ?_, ?_⟩
  · rw [hp.grown.block b (by simp; omega) hne]
    exact ((Below.refl W.heap.size W).alloc (Nat.le_refl _) o).block b hb
  · rcases hp.way with ⟨b, c, e1, e2⟩ | ⟨⟨b, e, hb⟩, _⟩
    · left; rw [e1, e2]; rfl
    · right; exact ⟨b, e, by simp at hb; omega⟩
theorem P2.step {W w1 wk w2 : World} {o o2 : Obj} {v g h V2 : Value} {l : List Nat} (hP : P2 w base X m VH hs al t VA prs W) (ha : Ap hs al) (hX : base ≤ X) (ht : hs[t]? = some (v, l))
    (hp : AppPost E8 (W.alloc o) base v (List.replicate l.length (.int .u8 ((m + 1 + t : Nat) : Int))) (.int .u8 ((m + 1 + t : Nat) : Int)) g w1)
    (hx : Ext E8 w1 base g (List.replicate l.length (.int .u8 ((m + 1 + t : Nat) : Int)) ++ [.int .u8 ((m + 1 + t : Nat) : Int)]) (.int .u8 ((m + 1 + t : Nat) : Int)) 64 h wk)
    (hg : (wk.alloc o2).grownBy w2 VA.ownBlock)
    (hj : JP TK w2 base V2 ((al ++ ent m hs ++ prs).map kcell ++ [(g, .int .u8 ((m + 1 + t : Nat) : Int)), (h, .int .u8 ((m + 1 + t : Nat) : Int))])) :
    P2 w base X m VH hs al (t + 1) V2 (prs ++ [(g, l.length + 1, m + 1 + t), (h, l.length + 1 + 64, m + 1 + t)]) (w2.setCell ⟨X, 2, none⟩ V2) := by
  have hmem : (v, l.length, m + 1 + t) ∈ al ++ ent m hs ++ prs := List.mem_append_left _ (List.mem_append_right _ (List.mem_of_getElem? (ent_at ht)))
  have hv0 := hP.sk.all _ hmem
  obtain ⟨hA, hgb⟩ := app_blk hp
  have hs1 : W.heap.size ≤ w1.heap.size := by have := hp.grown.size; simp at this; omega
  have hsk : W.heap.size ≤ wk.heap.size := Nat.le_trans hs1 hx.size
  have hb0 : base ≤ W.heap.size := Nat.le_of_lt (Nat.lt_of_le_of_lt hX hP.sk.box.lt)
  have hB : ∀ b, b < W.heap.size → some b ≠ v.ownBlock → wk.heap[b]? = W.heap[b]? := by
    intro b hb hne
    rw [hx.block b (by omega) ?_, hA b hb hne]
    rcases hgb with e | ⟨b', e, hb'⟩
    · rw [e]; exact hne
    · rw [e]; intro q; injection q with q; omega
  have hvE : ∀ b, v.ownBlock = some b → BT W b E8 := fun b e => hv0.bt e
  have hBT : ∀ b T, T ≠ E8 → BT W b T → wk.heap[b]? = W.heap[b]? := by
    intro b T hT hb
    have hlt : b < W.heap.size := by obtain ⟨c, hc⟩ := hb; exact (Array.getElem?_eq_some_iff.1 hc).1
    exact hB b hlt fun e => hb.ne (hvE b e.symm) hT rfl
  have hBTk : ∀ b T, T ≠ E8 → BT W b T → BT wk b T := fun b T hT hb => by obtain ⟨c, hc⟩ := hb; exact ⟨c, (hBT b T hT ⟨c, hc⟩).trans hc⟩
  have hkrow : JP TK wk base VA ((al ++ ent m hs ++ prs).map kcell) := hP.sk.krow.same fun b e => hBT b TK (by decide) (hP.sk.krow.bt e)
  have hboxk : Blk wk X TB [.int .u8 ((m + hs.length : Nat) : Int), VH, VA] := (hBT X TB (by decide) (blk_bt hP.sk.box)).trans hP.sk.box
  have hC : ∀ b T, T ≠ TK → BT wk b T → w2.heap[b]? = wk.heap[b]? := by
    intro b T hT hb
    have hlt : b < wk.heap.size := by obtain ⟨c, hc⟩ := hb; exact (Array.getElem?_eq_some_iff.1 hc).1
    rw [hg.block b (by simp; omega) (fun e => hb.ne (hkrow.bt e.symm) hT rfl)]
    exact ((Below.refl wk.heap.size wk).alloc (Nat.le_refl _) o2).block b hlt
  have hD : ∀ b T, T ≠ TK → T ≠ TB → BT wk b T → (w2.setCell ⟨X, 2, none⟩ V2).heap[b]? = wk.heap[b]? := fun b T hT hT' hb => (heap_set _ _ _ _ _ (hb.ne (blk_bt hboxk) hT')).trans (hC b T hT hb)
  have hvv : ∀ {v : Value} {xs : List Value}, JV E8 wk base v xs → JV E8 (w2.setCell ⟨X, 2, none⟩ V2) base v xs := fun hj => hj.same fun g e => hD g E8 (by decide) (by decide) (hj.bt e)
  have hbox2 : Blk w2 X TB [.int .u8 ((m + hs.length : Nat) : Int), VH, VA] := (hC X TB (by decide) (blk_bt hboxk)).trans hboxk
  -- the list itself is as it was
  have hvk : JV E8 wk base v (List.replicate l.length (.int .u8 ((m + 1 + t : Nat) : Int))) := by
    rcases hp.way with ⟨b, c, e1, e2⟩ | ⟨⟨b, e, hb⟩, _⟩
    · have := hx.old
      rw [e2] at this
      have := this.pre
      rw [e1]; exact this
    · refine hp.old.same fun b' e' => hx.block b' (hp.old.blk_lt b' e') fun q => ?_
      rw [e] at q
      injection q with q
      have := hv0.blk_lt b' e'
      simp at hb
      omega
  have hother : ∀ p ∈ al ++ ent m hs ++ prs, JV E8 wk base p.1 (List.replicate p.2.1 (.int .u8 (p.2.2 : Int))) := by
    intro p hp'
    have hold := hP.sk.all p hp'
    have key : (∀ b, p.1.ownBlock = some b → v.ownBlock ≠ some b) → JV E8 wk base p.1 (List.replicate p.2.1 (.int .u8 (p.2.2 : Int))) := fun hne => hold.same fun b e => hB b (hold.blk_lt b e) fun q => hne b e q.symm
    rcases List.mem_append.1 hp' with h1 | h1
    · rcases List.mem_append.1 h1 with h1 | h1
      · exact key fun b e => ha.aap p h1 _ (List.mem_of_getElem? ht) b e
      · rw [← List.take_length (l := ent m hs)] at h1
        obtain ⟨s, q, _, hs2, rfl⟩ := ent_mem h1
        by_cases hst : s = t
        · subst hst
          rw [ht] at hs2
          injection hs2 with hs2
          subst hs2
          exact hvk
        · exact key fun b e => ha.hap s t q _ b hst hs2 ht e
    · exact key fun b e => hP.apart p h1 t _ (Nat.le_refl _) ht b e
  have hgk : JV E8 wk base g (List.replicate (l.length + 1) (.int .u8 ((m + 1 + t : Nat) : Int))) := by rw [List.replicate_succ']; exact hx.old
  have hhk : JV E8 wk base h (List.replicate (l.length + 1 + 64) (.int .u8 ((m + 1 + t : Nat) : Int))) := by rw [← List.replicate_append_replicate, List.replicate_succ']; exact hx.row
  have hnew : ∀ s q, t + 1 ≤ s → hs[s]? = some q → ∀ b, (g.ownBlock = some b ∨ h.ownBlock = some b) → q.1.ownBlock ≠ some b := by
    intro s q hs' hq b hb hqb
    have hqm : (q.1, q.2.length, m + 1 + s) ∈ al ++ ent m hs ++ prs := List.mem_append_left _ (List.mem_append_right _ (List.mem_of_getElem? (ent_at hq)))
    have hlt := (hP.sk.all _ hqm).blk_lt b hqb
    have hvs : v.ownBlock ≠ some b := fun e => ha.hap t s _ q b (by omega) ht hq e hqb
    have hg' : g.ownBlock ≠ some b := by
      rcases hgb with e | ⟨b', e, hb'⟩
      · rw [e]; exact hvs
      · rw [e]; intro q; injection q with q; omega
    rcases hb with hb | hb
    · exact hg' hb
    · rcases hx.way with ⟨b1, c1, e1, e2⟩ | ⟨h0, _⟩ | ⟨b1, e1, hb1⟩
      · rw [e2] at hb; rw [e1] at hg'; exact hg' hb
      · cases h0
      · rw [e1] at hb; injection hb with hb; omega
  refine ⟨⟨hbox2.set _, ?_, ?_, ?_⟩, by simp [hP.len]; omega, ?_, ?_⟩
  · exact hP.sk.hrow.same fun b e => (hD b TH (by decide) (by decide) (hBTk b TH (by decide) (hP.sk.hrow.bt e))).trans (hBT b TH (by decide) (hP.sk.hrow.bt e))
  · rw [← List.append_assoc, List.map_append]
    exact hj.same fun b e => heap_set _ _ _ _ _ (hj.bt e |>.ne (blk_bt hbox2) (by decide))
  · intro p hp'
    rw [← List.append_assoc] at hp'
    rcases List.mem_append.1 hp' with h1 | h1
    · exact hvv (hother p h1)
    · simp at h1
      rcases h1 with rfl | rfl
      · exact hvv hgk
      · exact hvv hhk
  · intro p hp' s q hs' hq b hb
    rcases List.mem_append.1 hp' with h1 | h1
    · exact hP.apart p h1 s q (by omega) hq b hb
    · simp at h1
      rcases h1 with rfl | rfl
      · exact hnew s q hs' hq b (.inl hb)
      · exact hnew s q hs' hq b (.inr hb)
  · have hbk : Below base W wk := by
      have e1 : (W.alloc o).os = W.os := rfl
      refine ⟨hx.os.trans hp.grown.os, hx.tape.trans hp.grown.tape, hx.output.trans hp.grown.output, hsk, fun b hb => hB b (by omega) fun e => ?_⟩
      have := hv0.blk_ge b e.symm
      omega
    exact (((hP.below.trans hbk).alloc (by omega) _).grown hg (by simp; omega) (fun x hx => hP.sk.krow.blk_ge x hx)).setCell (p := ⟨X, 2, none⟩) hX _
end
end Ow
end Go.Proofs.Ytipopjhmjdnnlaa
