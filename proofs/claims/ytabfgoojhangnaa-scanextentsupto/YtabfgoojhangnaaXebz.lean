/-
  THE REFERENCE OF LAYER 5: Extents.
-/
import Derived.Test.YtabfgoojhangnaaXeby
import Derived.Test.YtabfgoojhangnaaXeba
namespace Go.Proofs.Ytabfgoojhangnaa
open Go.RowKit Go.Shelf
namespace Vt
/-- places in order, no two over one another -/
def Ord : Nat → List Lc → Prop
  | _, [] => True
  | at_, x :: r => at_ ≤ x.1 ∧ Ord (x.1 + x.2.1) r
theorem Ord.mono {a b : Nat} {L : List Lc} (h : Ord b L) (hab : a ≤ b) : Ord a L := by
  cases L with
  | nil => exact trivial
  | cons x r => exact ⟨Nat.le_trans hab h.1, h.2⟩
theorem locs_ord : ∀ (n : Nat) (l : List Nat), Byt l → l.length ≤ n → ∀ at_, Ord at_ (locs at_ l) := by
  intro n
  induction n with
  | zero =>
    intro l _ hl at_
    obtain rfl : l = [] := List.length_eq_zero_iff.1 (by omega)
    exact trivial
  | succ n ih =>
    intro l hb hl at_
    by_cases h0 : l = []
    · subst h0; exact trivial
    · have hp : 0 < l.length := List.length_pos_iff.2 h0
      by_cases h : (dcd l).2.2 = 0
      · have hm : (at_, (dcd l).2.1, (dcd l).1) ∈ locs at_ l := by rw [locs_ok hb at_ h]; exact List.mem_cons_self
        have h9 := (locs_mem hb at_ _ hm).2.2.2.1
        rw [locs_ok hb at_ h]
        exact ⟨Nat.le_refl _, ih _ (byt_drop hb _) (by rw [List.length_drop]; simp only at h9; omega) _⟩
      · rw [locs_err h]
        exact (ih _ (byt_drop hb _) (by rw [List.length_drop]; omega) _).mono (by omega)
theorem ord_adj : ∀ (L : List Lc) (at_ k : Nat) (y x : Lc), Ord at_ L → L[k]? = some y → L[k + 1]? = some x → y.1 + y.2.1 ≤ x.1 := by
  intro L
  induction L with
  | nil => intro at_ k y x _ h; simp at h
  | cons z r ih =>
    intro at_ k y x ho h1 h2
    cases k with
    | zero =>
      simp at h1 h2
      subst h1
      cases r with
      | nil => simp at h2
      | cons u r =>
        simp at h2
        subst h2
        exact ho.2.1
    | succ k =>
      rw [List.getElem?_cons_succ] at h1 h2
      exact ih _ k y x ho.2 h1 h2
theorem exF_le {l : List Nat} (hb : Byt l) (k : Nat) (x : Lc) (hx : (locs 0 l)[k]? = some x) : (exF ((locs 0 l).take k)).2 ≤ x.1 := by
  cases k with
  | zero => exact Nat.zero_le _
  | succ k =>
    have hk : k < (locs 0 l).length := by have := (List.getElem?_eq_some_iff.1 hx).1; omega
    obtain ⟨y, hy⟩ : ∃ y, (locs 0 l)[k]? = some y := ⟨_, List.getElem?_eq_getElem hk⟩
    rw [take_one hy, exF_snoc]
    exact ord_adj _ 0 k y x (locs_ord _ l hb (Nat.le_refl _) 0) hy hx
theorem exF_top {l : List Nat} (hb : Byt l) : (exF (locs 0 l)).2 ≤ l.length := by
  rcases List.eq_nil_or_concat (locs 0 l) with h | ⟨pre, y, h⟩
  · rw [h]; exact Nat.zero_le _
  · have hm : y ∈ locs 0 l := by rw [h]; simp
    have := (locs_mem hb 0 y hm).2.1
    rw [h, List.concat_eq_append, exF_snoc]
    show y.1 + y.2.1 ≤ _
    omega
attribute [local go_sem] Oper.semAt_some
attribute [local go_sem ↓] append_hide
set_option maxRecDepth 100000 in
set_option maxHeartbeats 2000000 in
theorem r5_extents (v : Value) (l : List Nat) (w : World) (hI : IsB w v l) (hl : l.length ≤ 10000000) :
    Calls Try.prog 7 #[v] w fun e w' => ∃ v', e = .returned v' ∧ JE w' w.heap.size v' ((exts l).map exv) ∧ Below w.heap.size w w' := by
  obtain ⟨av0, c, rfl⟩ := hI.shape
  have HI := hd hI
  have HLM := hd (fun x hx => locs_mem hI.1 0 x hx)
  have HXL := hd (fun k x hx => exF_le hI.1 k x hx)
  have htp := exF_top hI.1
  have hll := locs_len hI.1 _ (Nat.le_refl _) 0
  clear hI
  go_enter Try.func7, Try.ntmps7
  go_wp2_with fail
  refine Calls.mono (r5_all _ l w HI.out (by omega)) ?_
  rintro e w1 ⟨u, rfl, hj, hb⟩
  obtain ⟨au, cu, rfl, hcu⟩ := hj.shape
  rw [List.length_map] at hcu hj ⊢
  have HJ := hd hj
  have HB := hd hb
  have hs1 := hb.size
  have HEX : Hid (exts l = (exF (locs 0 l)).1 ++ jk1 (exF (locs 0 l)).2 l.length) := hd rfl
  obtain ⟨L, hL⟩ : ∃ L, L = locs 0 l := ⟨_, rfl⟩
  rw [← hL] at HJ HLM HXL hcu hll HEX htp ⊢
  clear hj hb HI hL
  go_wp2_with fail
  go_loopw [3, 5, 6] (fun o t i wr => ∃ (k : Nat), k ≤ L.length ∧ i = .int .i64 (k : Int) ∧ t = .int .i64 ((exF (L.take k)).2 : Int) ∧ JE wr w1.heap.size o ((exF (L.take k)).1.map exv) ∧ Below w1.heap.size w1 wr) (fun _ _ i _ => L.length - (intOf i).toNat)
  case atStart => exact ⟨0, by omega, rfl, rfl, jr_nil _ _, Below.refl _ _⟩
  case round =>
    obtain ⟨k, hk, rfl, rfl, hj, hb⟩ := hrel
    obtain ⟨av, cv, rfl, hcv⟩ := hj.shape
    have hel := exF_len (L.take k)
    have htl : (L.take k).length ≤ 1200000 := by rw [List.length_take]; omega
    rw [List.length_map] at hcv hj ⊢
    have HJB := hd hj
    have HBr := hd hb
    have hsr := hb.size
    clear hj hb
    by_cases hlt : k < L.length
    · obtain ⟨⟨x1, x2, f⟩, hx⟩ : ∃ x, L[k]? = some x := ⟨L[k], List.getElem?_eq_getElem hlt⟩
      have hxm : (L.map fov)[k]? = some (fov (x1, x2, f)) := by rw [List.getElem?_map, hx]; rfl
      have HXM := hd hxm
      have hne : L.map fov ≠ [] := by intro e; rw [e] at hxm; simp at hxm
      obtain ⟨g, cu', hv1, hg1, hm1⟩ := HJ.out.nn hne
      injection hv1 with e1 e2 e3
      subst e1
      have hle := HXL.out k _ hx
      have hmem := HLM.out _ (List.mem_of_getElem? hx)
      have hxl : x1 + x2 ≤ l.length := by have := hmem.2.1; simpa using this
      have hsn : exF (L.take (k + 1)) = exS (exF (L.take k)) (x1, x2, f) := by rw [take_one hx, exF_snoc]
      obtain ⟨E0, hE0⟩ : ∃ E0, E0 = (exF (L.take k)).1 := ⟨_, rfl⟩
      obtain ⟨A0, hA0⟩ : ∃ A0, A0 = (exF (L.take k)).2 := ⟨_, rfl⟩
      unfold exS at hsn
      simp only at hsn
      rw [← hE0, ← hA0] at hsn
      rw [← hE0] at hel HJB hcv ⊢
      rw [← hA0] at hle ⊢
      simp only at hle
      have HSN := hd hsn
      have r0 := (HJ.out.keepAll HBr.out).at k _ 0 _ hxm rfl
      have r1 := (HJ.out.keepAll HBr.out).at k _ 1 _ hxm rfl
      simp only [Nat.add_zero] at r0
      have hmx : Try.prog.follows .mixedOrders = true := by kernel_rfl
      have hl8 : E0.length ≤ 2400000 := by omega
      clear hxm hne hx e2 e3 hg1 hm1 hmem hsn hE0 hA0 hel htl
      by_cases hgt : A0 < x1
      · have hgt' : (x1 : Int) > (A0 : Int) := by omega
        have HJK : Hid (jk1 A0 x1 = [(true, (A0 : Int), (x1 : Int) - (A0 : Int))]) := hd (by unfold jk1; rw [if_neg (by omega)])
        go_wp2_with (at_builtin; refine wpList_append_jr Try.underlying28 info_ex rfl (by decide) _ rfl _ _ rfl w1.heap.size (.slice av E0.length cv) (E0.map exv) wr.heap.size 1 [.bool true, .int .i64 (A0 : Int), .int .i64 ((x1 : Int) - (A0 : Int))] rfl rfl (HJB.out.alloc _) rfl (exv_one (true, (A0 : Int), (x1 : Int) - (A0 : Int))) (fun j u hu => cell_lit wr _ _ j u _ rfl hu) (E0.length + 1) (by rw [List.length_map]) (by omega) (by unfold maxLen; omega) (by simp; omega) ?_; intro g3 c3 w3 hj3 hg3 hw3; have hb3 := ((HBr.out.alloc hsr _).grown hg3 (by simp; omega) (fun g e => HJB.out.blk_ge g e)); have HJ3 := hd hj3; have HB3 := hd hb3; have hs3 := hb3.size; have r0 := (HJ.out.keepAll hb3).at k _ 0 _ HXM.out rfl; have r1 := (HJ.out.keepAll hb3).at k _ 1 _ HXM.out rfl; simp only [Nat.add_zero] at r0; clear hj3 hg3 hw3 hb3)
        obtain ⟨g5, c5, w5, hr5, hj5, hg5, hw5⟩ := run_append_jr Try.underlying28 info_ex rfl (by decide) 28 ((w3.alloc (.cells #[.bool false, .int .i64 (x1 : Int), .int .i64 (x2 : Int)] 59)).drew) w1.heap.size (.slice (some ⟨g3, 0, none⟩) (E0.length + 1) c3) (E0.map exv ++ ([[.bool true, .int .i64 (A0 : Int), .int .i64 ((x1 : Int) - (A0 : Int))]] : List (List Value))) (HJ3.out.alloc _) w3.heap.size 1 [.bool false, .int .i64 (x1 : Int), .int .i64 (x2 : Int)] rfl (exv_one (false, (x1 : Int), (x2 : Int))) (fun j u hu => cell_lit w3 _ _ j u _ rfl hu) (by simp only [List.length_append, List.length_map, List.length_cons, List.length_nil]; omega) (by simp only [List.length_append, List.length_map, List.length_cons, List.length_nil]; unfold maxLen; omega) (by show w1.heap.size ≤ (w3.alloc _).heap.size; rw [World.size_alloc]; omega)
        simp only [List.length_append, List.length_map, List.length_cons, List.length_nil, Nat.zero_add] at hr5 hj5
        have hap : (apH #[28, 28] 28 #[.slice (some ⟨g3, 0, none⟩) (E0.length + 1) c3, .slice (some ⟨w3.heap.size, 0, none⟩) 1 1]).run Try.prog (w3.alloc (.cells #[.bool false, .int .i64 (x1 : Int), .int .i64 (x2 : Int)] 59)).drew = .ok (.slice (some ⟨g5, 0, none⟩) (E0.length + 1 + 1) c5) w5 := hr5
        have HJ5 := hd hj5
        have hb5 : Below w1.heap.size w1 w5 := ((HB3.out.alloc hs3 _).drew).grown hg5 (by show w1.heap.size ≤ (w3.alloc _).heap.size; rw [World.size_alloc]; omega) (fun g e => HJ3.out.blk_ge g e)
        have HB5 := hd hb5
        have s0 := (HJ.out.keepAll hb5).at k _ 0 _ HXM.out rfl
        have s1 := (HJ.out.keepAll hb5).at k _ 1 _ HXM.out rfl
        simp only [Nat.add_zero] at s0
        obtain ⟨SS, hS0, hS1, hS2⟩ : ∃ SS : Nat → World, SS 0 = w3.drew ∧ SS 1 = (w3.alloc (.cells #[.bool false, .int .i64 (x1 : Int), .int .i64 (x2 : Int)] 59)).drew ∧ SS 2 = w5 := ⟨fun s => match s with | 0 => _ | 1 => _ | _ => _, rfl, rfl, rfl⟩
        have HS0 := hd hS0
        have HS1 := hd hS1
        have HS2 := hd hS2
        have hltI : (k : Int) < (L.length : Int) := by omega
        clear hr5 hj5 hg5 hw5 hb5 hS0 hS1 hS2
        refine region_chain (fun i => match i with
          | 0 => Value.slice (some { block := g3, off := 0 }) (E0.length + 1) c3
          | 1 => Value.slice (some { block := g, off := 0 }) L.length cu
          | 2 => Value.int IntKind.i64 (k : Int)
          | 3 => .pointer (some ⟨g, k * 16, none⟩)
          | 4 => .pointer (some ⟨g, k * 16, none⟩)
          | 5 => .int .i64 (x1 : Int)
          | 6 => Value.slice (some { block := g, off := 0 }) L.length cu
          | 7 => Value.int IntKind.i64 (k : Int)
          | 8 => .pointer (some ⟨g, k * 16, none⟩)
          | 9 => .pointer (some ⟨g, k * 16 + 1, none⟩)
          | 10 => .int .i64 (x2 : Int)
          | 11 => .agg #[.bool false, .int .i64 (x1 : Int), .int .i64 (x2 : Int)]
          | 12 => .slice (some ⟨w3.heap.size, 0, none⟩) 1 1
          | 13 => .slice (some ⟨g5, 0, none⟩) (E0.length + 1 + 1) c5
          | 14 => .slice (some ⟨g5, 0, none⟩) (E0.length + 1 + 1) c5
          | _ => undef) [12, 13] SS hmx (by kernel_rfl) (by kernel_rfl) (by kernel_rfl) (by kernel_rfl) HS0.out ?_ ?_ (by decide)
        · intro i o ho s a hsr hlo hhi hout haf hun
          have ee4 := getq (show a.tmps.getD 4 undef = Value.slice (some { block := g, off := 0 }) L.length cu from hout 4 (notDst_spec (by kernel_rfl)))
          have ee6 := getq (show a.tmps.getD 6 undef = Value.int IntKind.i64 (k : Int) from hout 6 (notDst_spec (by kernel_rfl)))
          clear hout
          match i, ho, hlo, hhi, haf, hun with
          | 0, ho, hlo, hhi, haf, hun =>
            obtain rfl := Option.some.inj ho
            have g14 := getq (show a.tmps.getD 3 undef = Value.slice (some { block := g3, off := 0 }) (E0.length + 1) c3 from hun 14 3 (by decide) (.inr (by kernel_rfl)) rfl)
            refine step_c (w' := SS s) rfl fun K hK => ?_
            simp only [List.getElem_toArray, List.getElem_cons_zero] at hK ⊢
            clear haf hlo hhi hun ho hsr
            go_simp
            exact hK
          | 1, ho, hlo, hhi, haf, hun =>
            obtain rfl := Option.some.inj ho
            obtain rfl : s = 0 := by have := hhi 0 (by decide) (.inr (by kernel_rfl)); simp at hsr; omega
            refine step_c (w' := SS 0) rfl fun K hK => ?_
            simp only [List.getElem_toArray, List.getElem_cons_succ, List.getElem_cons_zero] at hK ⊢
            clear haf hlo hhi hun ho hsr
            go_simp
            exact hK
          | 2, ho, hlo, hhi, haf, hun =>
            obtain rfl := Option.some.inj ho
            obtain rfl : s = 0 := by have := hhi 0 (by decide) (.inr (by kernel_rfl)); simp at hsr; omega
            refine step_c (w' := SS 0) rfl fun K hK => ?_
            simp only [List.getElem_toArray, List.getElem_cons_succ, List.getElem_cons_zero] at hK ⊢
            clear haf hlo hhi hun ho hsr
            go_simp
            exact hK
          | 3, ho, hlo, hhi, haf, hun =>
            obtain rfl := Option.some.inj ho
            have f1 := getq (show a.tmps.getD 35 undef = Value.slice (some { block := g, off := 0 }) L.length cu from haf ⟨1, .data⟩ (by simp) rfl 35 rfl)
            have f2 := getq (show a.tmps.getD 36 undef = Value.int IntKind.i64 (k : Int) from haf ⟨2, .data⟩ (by simp) rfl 36 rfl)
            obtain rfl : s = 0 := by have := hhi 0 (by decide) (.inr (by kernel_rfl)); simp at hsr; omega
            refine step_c (w' := SS 0) rfl fun K hK => ?_
            simp only [List.getElem_toArray, List.getElem_cons_succ, List.getElem_cons_zero] at hK ⊢
            clear haf hlo hhi hun ho hsr
            go_simp
            exact hK
          | 4, ho, hlo, hhi, haf, hun =>
            obtain rfl := Option.some.inj ho
            have f3 := getq (show a.tmps.getD 37 undef = .pointer (some ⟨g, k * 16, none⟩) from haf ⟨3, .data⟩ (by simp) rfl 37 rfl)
            obtain rfl : s = 0 := by have := hhi 0 (by decide) (.inr (by kernel_rfl)); simp at hsr; omega
            refine step_c (w' := SS 0) rfl fun K hK => ?_
            simp only [List.getElem_toArray, List.getElem_cons_succ, List.getElem_cons_zero] at hK ⊢
            clear haf hlo hhi hun ho hsr
            go_simp
            exact hK
          | 5, ho, hlo, hhi, haf, hun =>
            obtain rfl := Option.some.inj ho
            have f4 := getq (show a.tmps.getD 38 undef = .pointer (some ⟨g, k * 16, none⟩) from haf ⟨4, .data⟩ (by simp) rfl 38 rfl)
            obtain rfl : s = 0 := by have := hhi 0 (by decide) (.inr (by kernel_rfl)); simp at hsr; omega
            refine step_c (w' := SS 0) rfl fun K hK => ?_
            simp only [List.getElem_toArray, List.getElem_cons_succ, List.getElem_cons_zero] at hK ⊢
            clear haf hlo hhi hun ho hsr
            rw [HS0.out] at hK ⊢
            go_simp
            exact hK
          | 6, ho, hlo, hhi, haf, hun =>
            obtain rfl := Option.some.inj ho
            obtain rfl : s = 0 := by have := hhi 0 (by decide) (.inr (by kernel_rfl)); simp at hsr; omega
            refine step_c (w' := SS 0) rfl fun K hK => ?_
            simp only [List.getElem_toArray, List.getElem_cons_succ, List.getElem_cons_zero] at hK ⊢
            clear haf hlo hhi hun ho hsr
            go_simp
            exact hK
          | 7, ho, hlo, hhi, haf, hun =>
            obtain rfl := Option.some.inj ho
            obtain rfl : s = 0 := by have := hhi 0 (by decide) (.inr (by kernel_rfl)); simp at hsr; omega
            refine step_c (w' := SS 0) rfl fun K hK => ?_
            simp only [List.getElem_toArray, List.getElem_cons_succ, List.getElem_cons_zero] at hK ⊢
            clear haf hlo hhi hun ho hsr
            go_simp
            exact hK
          | 8, ho, hlo, hhi, haf, hun =>
            obtain rfl := Option.some.inj ho
            have f6 := getq (show a.tmps.getD 40 undef = Value.slice (some { block := g, off := 0 }) L.length cu from haf ⟨6, .data⟩ (by simp) rfl 40 rfl)
            have f7 := getq (show a.tmps.getD 41 undef = Value.int IntKind.i64 (k : Int) from haf ⟨7, .data⟩ (by simp) rfl 41 rfl)
            obtain rfl : s = 0 := by have := hhi 0 (by decide) (.inr (by kernel_rfl)); simp at hsr; omega
            refine step_c (w' := SS 0) rfl fun K hK => ?_
            simp only [List.getElem_toArray, List.getElem_cons_succ, List.getElem_cons_zero] at hK ⊢
            clear haf hlo hhi hun ho hsr
            go_simp
            exact hK
          | 9, ho, hlo, hhi, haf, hun =>
            obtain rfl := Option.some.inj ho
            have f8 := getq (show a.tmps.getD 42 undef = .pointer (some ⟨g, k * 16, none⟩) from haf ⟨8, .data⟩ (by simp) rfl 42 rfl)
            obtain rfl : s = 0 := by have := hhi 0 (by decide) (.inr (by kernel_rfl)); simp at hsr; omega
            refine step_c (w' := SS 0) rfl fun K hK => ?_
            simp only [List.getElem_toArray, List.getElem_cons_succ, List.getElem_cons_zero] at hK ⊢
            clear haf hlo hhi hun ho hsr
            go_simp
            exact hK
          | 10, ho, hlo, hhi, haf, hun =>
            obtain rfl := Option.some.inj ho
            have f9 := getq (show a.tmps.getD 43 undef = .pointer (some ⟨g, k * 16 + 1, none⟩) from haf ⟨9, .data⟩ (by simp) rfl 43 rfl)
            obtain rfl : s = 0 := by have := hhi 0 (by decide) (.inr (by kernel_rfl)); simp at hsr; omega
            refine step_c (w' := SS 0) rfl fun K hK => ?_
            simp only [List.getElem_toArray, List.getElem_cons_succ, List.getElem_cons_zero] at hK ⊢
            clear haf hlo hhi hun ho hsr
            rw [HS0.out] at hK ⊢
            go_simp
            exact hK
          | 11, ho, hlo, hhi, haf, hun =>
            obtain rfl := Option.some.inj ho
            have f5 := getq (show a.tmps.getD 39 undef = .int .i64 (x1 : Int) from haf ⟨5, .data⟩ (by simp) rfl 39 rfl)
            have f10 := getq (show a.tmps.getD 44 undef = .int .i64 (x2 : Int) from haf ⟨10, .data⟩ (by simp) rfl 44 rfl)
            obtain rfl : s = 0 := by have := hhi 0 (by decide) (.inr (by kernel_rfl)); simp at hsr; omega
            refine step_c (w' := SS 0) rfl fun K hK => ?_
            simp only [List.getElem_toArray, List.getElem_cons_succ, List.getElem_cons_zero] at hK ⊢
            clear haf hlo hhi hun ho hsr
            go_simp
            exact hK
          | 12, ho, hlo, hhi, haf, hun =>
            obtain rfl := Option.some.inj ho
            have f11 := getq (show a.tmps.getD 45 undef = .agg #[.bool false, .int .i64 (x1 : Int), .int .i64 (x2 : Int)] from haf ⟨11, .data⟩ (by simp) rfl 45 rfl)
            obtain rfl : s = 0 := by have := hhi 0 (by decide) (.inl (by kernel_rfl)); omega
            refine step_c (w' := SS 1) rfl fun K hK => ?_
            simp only [List.getElem_toArray, List.getElem_cons_succ, List.getElem_cons_zero] at hK ⊢
            clear haf hlo hhi hun ho hsr
            rw [HS1.out] at hK
            rw [HS0.out]
            go_simp
            exact hK
          | 13, ho, hlo, hhi, haf, hun =>
            obtain rfl := Option.some.inj ho
            have f0 := getq (show a.tmps.getD 34 undef = Value.slice (some { block := g3, off := 0 }) (E0.length + 1) c3 from haf ⟨0, .data⟩ (by simp) rfl 34 rfl)
            have f12 := getq (show a.tmps.getD 46 undef = .slice (some ⟨w3.heap.size, 0, none⟩) 1 1 from haf ⟨12, .data⟩ (by simp) rfl 46 rfl)
            obtain rfl : s = 1 := by have := hlo 0 (by decide) (by kernel_rfl); have := hhi 1 (by decide) (.inl (by kernel_rfl)); omega
            refine step_c (w' := SS 2) rfl fun K hK => ?_
            simp only [List.getElem_toArray, List.getElem_cons_succ, List.getElem_cons_zero] at hK ⊢
            clear haf hlo hhi hun ho hsr
            rw [HS2.out] at hK
            rw [HS1.out]
            go_simp
            exact hK
          | 14, ho, hlo, hhi, haf, hun =>
            obtain rfl := Option.some.inj ho
            have f13 := getq (show a.tmps.getD 47 undef = .slice (some ⟨g5, 0, none⟩) (E0.length + 1 + 1) c5 from haf ⟨13, .data⟩ (by simp) rfl 47 rfl)
            obtain rfl : s = 2 := by have := hlo 1 (by decide) (by kernel_rfl); simp at hsr; omega
            refine step_c (w' := SS 2) rfl fun K hK => ?_
            simp only [List.getElem_toArray, List.getElem_cons_succ, List.getElem_cons_zero] at hK ⊢
            clear haf hlo hhi hun ho hsr
            go_simp
            exact hK
          | n + 15, ho, _, _, _, _ => simp at ho
        · intro aa hdf hsz hout hval
          have hat : aa.tmps = #[Value.slice av0 l.length c, undef, Value.slice none 0 0, .slice (some ⟨g5, 0, none⟩) (E0.length + 1 + 1) c5, Value.slice (some { block := g, off := 0 }) L.length cu, Value.int IntKind.i64 (A0 : Int), Value.int IntKind.i64 (k : Int), Value.slice av0 l.length c, Value.slice (some { block := g, off := 0 }) L.length cu, Value.int IntKind.i64 (k : Int), Value.slice (some { block := g, off := 0 }) L.length cu, Value.int IntKind.i64 (L.length : Int), Value.bool true, u13, u14, Value.slice (some { block := g, off := 0 }) L.length cu, Value.int IntKind.i64 (k : Int), Value.pointer (some { block := g, off := k * 16 }), Value.pointer (some { block := g, off := k * 16 }), Value.int IntKind.i64 (x1 : Int), Value.int IntKind.i64 (A0 : Int), Value.bool true, Value.slice av E0.length cv, Value.int IntKind.i64 (A0 : Int), Value.slice (some { block := g, off := 0 }) L.length cu, Value.int IntKind.i64 (k : Int), Value.pointer (some { block := g, off := k * 16 }), Value.pointer (some { block := g, off := k * 16 }), Value.int IntKind.i64 (x1 : Int), Value.int IntKind.i64 (A0 : Int), Value.int IntKind.i64 ((x1 : Int) - (A0 : Int)), Value.agg #[Value.bool true, Value.int IntKind.i64 (A0 : Int), Value.int IntKind.i64 ((x1 : Int) - (A0 : Int))], Value.slice (some { block := wr.heap.size, off := 0 }) 1 1, Value.slice (some { block := g3, off := 0 }) (E0.length + 1) c3, Value.slice (some { block := g3, off := 0 }) (E0.length + 1) c3, Value.slice (some { block := g, off := 0 }) L.length cu, Value.int IntKind.i64 (k : Int), .pointer (some ⟨g, k * 16, none⟩), .pointer (some ⟨g, k * 16, none⟩), .int .i64 (x1 : Int), Value.slice (some { block := g, off := 0 }) L.length cu, Value.int IntKind.i64 (k : Int), .pointer (some ⟨g, k * 16, none⟩), .pointer (some ⟨g, k * 16 + 1, none⟩), .int .i64 (x2 : Int), .agg #[.bool false, .int .i64 (x1 : Int), .int .i64 (x2 : Int)], .slice (some ⟨w3.heap.size, 0, none⟩) 1 1, .slice (some ⟨g5, 0, none⟩) (E0.length + 1 + 1) c5, u48, u49, u50, u51, u52, u53, u54, u55, u56, u57, u58, undef, undef, undef, undef, undef, undef, undef, undef, undef, undef, undef, undef, undef, undef] := by
            refine arr_one (hsz.trans rfl) fun kk hkk => ?_
            match kk, hkk with
            | 0, _ => exact hout 0 (notDst_spec (by kernel_rfl))
            | 1, _ => exact hout 1 (notDst_spec (by kernel_rfl))
            | 2, _ => exact hout 2 (notDst_spec (by kernel_rfl))
            | 3, _ => exact hval 14 3 (by decide) rfl
            | 4, _ => exact hout 4 (notDst_spec (by kernel_rfl))
            | 5, _ => exact hout 5 (notDst_spec (by kernel_rfl))
            | 6, _ => exact hout 6 (notDst_spec (by kernel_rfl))
            | 7, _ => exact hout 7 (notDst_spec (by kernel_rfl))
            | 8, _ => exact hout 8 (notDst_spec (by kernel_rfl))
            | 9, _ => exact hout 9 (notDst_spec (by kernel_rfl))
            | 10, _ => exact hout 10 (notDst_spec (by kernel_rfl))
            | 11, _ => exact hout 11 (notDst_spec (by kernel_rfl))
            | 12, _ => exact hout 12 (notDst_spec (by kernel_rfl))
            | 13, _ => exact hout 13 (notDst_spec (by kernel_rfl))
            | 14, _ => exact hout 14 (notDst_spec (by kernel_rfl))
            | 15, _ => exact hout 15 (notDst_spec (by kernel_rfl))
            | 16, _ => exact hout 16 (notDst_spec (by kernel_rfl))
            | 17, _ => exact hout 17 (notDst_spec (by kernel_rfl))
            | 18, _ => exact hout 18 (notDst_spec (by kernel_rfl))
            | 19, _ => exact hout 19 (notDst_spec (by kernel_rfl))
            | 20, _ => exact hout 20 (notDst_spec (by kernel_rfl))
            | 21, _ => exact hout 21 (notDst_spec (by kernel_rfl))
            | 22, _ => exact hout 22 (notDst_spec (by kernel_rfl))
            | 23, _ => exact hout 23 (notDst_spec (by kernel_rfl))
            | 24, _ => exact hout 24 (notDst_spec (by kernel_rfl))
            | 25, _ => exact hout 25 (notDst_spec (by kernel_rfl))
            | 26, _ => exact hout 26 (notDst_spec (by kernel_rfl))
            | 27, _ => exact hout 27 (notDst_spec (by kernel_rfl))
            | 28, _ => exact hout 28 (notDst_spec (by kernel_rfl))
            | 29, _ => exact hout 29 (notDst_spec (by kernel_rfl))
            | 30, _ => exact hout 30 (notDst_spec (by kernel_rfl))
            | 31, _ => exact hout 31 (notDst_spec (by kernel_rfl))
            | 32, _ => exact hout 32 (notDst_spec (by kernel_rfl))
            | 33, _ => exact hout 33 (notDst_spec (by kernel_rfl))
            | 34, _ => exact hval 0 34 (by decide) rfl
            | 35, _ => exact hval 1 35 (by decide) rfl
            | 36, _ => exact hval 2 36 (by decide) rfl
            | 37, _ => exact hval 3 37 (by decide) rfl
            | 38, _ => exact hval 4 38 (by decide) rfl
            | 39, _ => exact hval 5 39 (by decide) rfl
            | 40, _ => exact hval 6 40 (by decide) rfl
            | 41, _ => exact hval 7 41 (by decide) rfl
            | 42, _ => exact hval 8 42 (by decide) rfl
            | 43, _ => exact hval 9 43 (by decide) rfl
            | 44, _ => exact hval 10 44 (by decide) rfl
            | 45, _ => exact hval 11 45 (by decide) rfl
            | 46, _ => exact hval 12 46 (by decide) rfl
            | 47, _ => exact hval 13 47 (by decide) rfl
            | 48, _ => exact hout 48 (notDst_spec (by kernel_rfl))
            | 49, _ => exact hout 49 (notDst_spec (by kernel_rfl))
            | 50, _ => exact hout 50 (notDst_spec (by kernel_rfl))
            | 51, _ => exact hout 51 (notDst_spec (by kernel_rfl))
            | 52, _ => exact hout 52 (notDst_spec (by kernel_rfl))
            | 53, _ => exact hout 53 (notDst_spec (by kernel_rfl))
            | 54, _ => exact hout 54 (notDst_spec (by kernel_rfl))
            | 55, _ => exact hout 55 (notDst_spec (by kernel_rfl))
            | 56, _ => exact hout 56 (notDst_spec (by kernel_rfl))
            | 57, _ => exact hout 57 (notDst_spec (by kernel_rfl))
            | 58, _ => exact hout 58 (notDst_spec (by kernel_rfl))
            | 59, _ => exact hout 59 (notDst_spec (by kernel_rfl))
            | 60, _ => exact hout 60 (notDst_spec (by kernel_rfl))
            | 61, _ => exact hout 61 (notDst_spec (by kernel_rfl))
            | 62, _ => exact hout 62 (notDst_spec (by kernel_rfl))
            | 63, _ => exact hout 63 (notDst_spec (by kernel_rfl))
            | 64, _ => exact hout 64 (notDst_spec (by kernel_rfl))
            | 65, _ => exact hout 65 (notDst_spec (by kernel_rfl))
            | 66, _ => exact hout 66 (notDst_spec (by kernel_rfl))
            | 67, _ => exact hout 67 (notDst_spec (by kernel_rfl))
            | 68, _ => exact hout 68 (notDst_spec (by kernel_rfl))
            | 69, _ => exact hout 69 (notDst_spec (by kernel_rfl))
            | 70, _ => exact hout 70 (notDst_spec (by kernel_rfl))
            | 71, _ => exact hout 71 (notDst_spec (by kernel_rfl))
            | 72, _ => exact hout 72 (notDst_spec (by kernel_rfl))
            | n + 73, h => exact absurd h (by simp)
          obtain ⟨tt, dd⟩ := aa
          simp only at hat hdf
          subst hat hdf
          clear hsz hout hval
          rw [show SS [12, 13].length = w5 from HS2.out]
          clear hap HS0 HS1
          go_wp2_with fail
          go_quiet (fail)
          go_wp2_with fail
          go_roundw
          case rel => exact ⟨k + 1, by omega, by go_num, by rw [HSN.out]; simp only [Int.natCast_add], by rw [HSN.out]; simp only; rw [HJK.out]; simp only [List.map_append, List.map_cons, List.map_nil]; exact HJ5.out.drewN nq, below_drewN HB5.out nq⟩
          case measure => simp [intOf]; omega
      · obtain rfl : A0 = x1 := by omega
        have hgt' : ¬ (A0 : Int) > (A0 : Int) := by omega
        have HJK : Hid (jk1 A0 A0 = []) := hd (by unfold jk1; rw [if_pos rfl])
        obtain ⟨g5, c5, w5, hr5, hj5, hg5, hw5⟩ := run_append_jr Try.underlying28 info_ex rfl (by decide) 28 ((wr.alloc (.cells #[.bool false, .int .i64 (A0 : Int), .int .i64 (x2 : Int)] 59)).drew) w1.heap.size (.slice av E0.length cv) (E0.map exv) (HJB.out.alloc _) wr.heap.size 1 [.bool false, .int .i64 (A0 : Int), .int .i64 (x2 : Int)] rfl (exv_one (false, (A0 : Int), (x2 : Int))) (fun j u hu => cell_lit wr _ _ j u _ rfl hu) (by rw [List.length_map]; omega) (by rw [List.length_map]; unfold maxLen; omega) (by show w1.heap.size ≤ (wr.alloc _).heap.size; rw [World.size_alloc]; omega)
        rw [List.length_map] at hr5 hj5
        have hap : (apH #[28, 28] 28 #[.slice av E0.length cv, .slice (some ⟨wr.heap.size, 0, none⟩) 1 1]).run Try.prog (wr.alloc (.cells #[.bool false, .int .i64 (A0 : Int), .int .i64 (x2 : Int)] 59)).drew = .ok (.slice (some ⟨g5, 0, none⟩) (E0.length + 1) c5) w5 := hr5
        have HJ5 := hd hj5
        have hb5 : Below w1.heap.size w1 w5 := ((HBr.out.alloc hsr _).drew).grown hg5 (by show w1.heap.size ≤ (wr.alloc _).heap.size; rw [World.size_alloc]; omega) (fun g e => HJB.out.blk_ge g e)
        have HB5 := hd hb5
        have s0 := (HJ.out.keepAll hb5).at k _ 0 _ HXM.out rfl
        have s1 := (HJ.out.keepAll hb5).at k _ 1 _ HXM.out rfl
        simp only [Nat.add_zero] at s0
        obtain ⟨SS, hS0, hS1, hS2⟩ : ∃ SS : Nat → World, SS 0 = wr.drew ∧ SS 1 = (wr.alloc (.cells #[.bool false, .int .i64 (A0 : Int), .int .i64 (x2 : Int)] 59)).drew ∧ SS 2 = w5 := ⟨fun s => match s with | 0 => _ | 1 => _ | _ => _, rfl, rfl, rfl⟩
        have HS0 := hd hS0
        have HS1 := hd hS1
        have HS2 := hd hS2
        have hltI : (k : Int) < (L.length : Int) := by omega
        clear hr5 hj5 hg5 hw5 hb5 hS0 hS1 hS2
        go_wp2_with fail
        refine region_chain (fun i => match i with
          | 0 => Value.slice av E0.length cv
          | 1 => Value.slice (some { block := g, off := 0 }) L.length cu
          | 2 => Value.int IntKind.i64 (k : Int)
          | 3 => .pointer (some ⟨g, k * 16, none⟩)
          | 4 => .pointer (some ⟨g, k * 16, none⟩)
          | 5 => .int .i64 (A0 : Int)
          | 6 => Value.slice (some { block := g, off := 0 }) L.length cu
          | 7 => Value.int IntKind.i64 (k : Int)
          | 8 => .pointer (some ⟨g, k * 16, none⟩)
          | 9 => .pointer (some ⟨g, k * 16 + 1, none⟩)
          | 10 => .int .i64 (x2 : Int)
          | 11 => .agg #[.bool false, .int .i64 (A0 : Int), .int .i64 (x2 : Int)]
          | 12 => .slice (some ⟨wr.heap.size, 0, none⟩) 1 1
          | 13 => .slice (some ⟨g5, 0, none⟩) (E0.length + 1) c5
          | 14 => .slice (some ⟨g5, 0, none⟩) (E0.length + 1) c5
          | _ => undef) [12, 13] SS hmx (by kernel_rfl) (by kernel_rfl) (by kernel_rfl) (by kernel_rfl) HS0.out ?_ ?_ (by decide)
        · intro i o ho s a hsr hlo hhi hout haf hun
          have ee4 := getq (show a.tmps.getD 4 undef = Value.slice (some { block := g, off := 0 }) L.length cu from hout 4 (notDst_spec (by kernel_rfl)))
          have ee6 := getq (show a.tmps.getD 6 undef = Value.int IntKind.i64 (k : Int) from hout 6 (notDst_spec (by kernel_rfl)))
          clear hout
          match i, ho, hlo, hhi, haf, hun with
          | 0, ho, hlo, hhi, haf, hun =>
            obtain rfl := Option.some.inj ho
            have g14 := getq (show a.tmps.getD 3 undef = Value.slice av E0.length cv from hun 14 3 (by decide) (.inr (by kernel_rfl)) rfl)
            refine step_c (w' := SS s) rfl fun K hK => ?_
            simp only [List.getElem_toArray, List.getElem_cons_zero] at hK ⊢
            clear haf hlo hhi hun ho hsr
            go_simp
            exact hK
          | 1, ho, hlo, hhi, haf, hun =>
            obtain rfl := Option.some.inj ho
            obtain rfl : s = 0 := by have := hhi 0 (by decide) (.inr (by kernel_rfl)); simp at hsr; omega
            refine step_c (w' := SS 0) rfl fun K hK => ?_
            simp only [List.getElem_toArray, List.getElem_cons_succ, List.getElem_cons_zero] at hK ⊢
            clear haf hlo hhi hun ho hsr
            go_simp
            exact hK
          | 2, ho, hlo, hhi, haf, hun =>
            obtain rfl := Option.some.inj ho
            obtain rfl : s = 0 := by have := hhi 0 (by decide) (.inr (by kernel_rfl)); simp at hsr; omega
            refine step_c (w' := SS 0) rfl fun K hK => ?_
            simp only [List.getElem_toArray, List.getElem_cons_succ, List.getElem_cons_zero] at hK ⊢
            clear haf hlo hhi hun ho hsr
            go_simp
            exact hK
          | 3, ho, hlo, hhi, haf, hun =>
            obtain rfl := Option.some.inj ho
            have f1 := getq (show a.tmps.getD 35 undef = Value.slice (some { block := g, off := 0 }) L.length cu from haf ⟨1, .data⟩ (by simp) rfl 35 rfl)
            have f2 := getq (show a.tmps.getD 36 undef = Value.int IntKind.i64 (k : Int) from haf ⟨2, .data⟩ (by simp) rfl 36 rfl)
            obtain rfl : s = 0 := by have := hhi 0 (by decide) (.inr (by kernel_rfl)); simp at hsr; omega
            refine step_c (w' := SS 0) rfl fun K hK => ?_
            simp only [List.getElem_toArray, List.getElem_cons_succ, List.getElem_cons_zero] at hK ⊢
            clear haf hlo hhi hun ho hsr
            go_simp
            exact hK
          | 4, ho, hlo, hhi, haf, hun =>
            obtain rfl := Option.some.inj ho
            have f3 := getq (show a.tmps.getD 37 undef = .pointer (some ⟨g, k * 16, none⟩) from haf ⟨3, .data⟩ (by simp) rfl 37 rfl)
            obtain rfl : s = 0 := by have := hhi 0 (by decide) (.inr (by kernel_rfl)); simp at hsr; omega
            refine step_c (w' := SS 0) rfl fun K hK => ?_
            simp only [List.getElem_toArray, List.getElem_cons_succ, List.getElem_cons_zero] at hK ⊢
            clear haf hlo hhi hun ho hsr
            go_simp
            exact hK
          | 5, ho, hlo, hhi, haf, hun =>
            obtain rfl := Option.some.inj ho
            have f4 := getq (show a.tmps.getD 38 undef = .pointer (some ⟨g, k * 16, none⟩) from haf ⟨4, .data⟩ (by simp) rfl 38 rfl)
            obtain rfl : s = 0 := by have := hhi 0 (by decide) (.inr (by kernel_rfl)); simp at hsr; omega
            refine step_c (w' := SS 0) rfl fun K hK => ?_
            simp only [List.getElem_toArray, List.getElem_cons_succ, List.getElem_cons_zero] at hK ⊢
            clear haf hlo hhi hun ho hsr
            rw [HS0.out] at hK ⊢
            go_simp
            exact hK
          | 6, ho, hlo, hhi, haf, hun =>
            obtain rfl := Option.some.inj ho
            obtain rfl : s = 0 := by have := hhi 0 (by decide) (.inr (by kernel_rfl)); simp at hsr; omega
            refine step_c (w' := SS 0) rfl fun K hK => ?_
            simp only [List.getElem_toArray, List.getElem_cons_succ, List.getElem_cons_zero] at hK ⊢
            clear haf hlo hhi hun ho hsr
            go_simp
            exact hK
          | 7, ho, hlo, hhi, haf, hun =>
            obtain rfl := Option.some.inj ho
            obtain rfl : s = 0 := by have := hhi 0 (by decide) (.inr (by kernel_rfl)); simp at hsr; omega
            refine step_c (w' := SS 0) rfl fun K hK => ?_
            simp only [List.getElem_toArray, List.getElem_cons_succ, List.getElem_cons_zero] at hK ⊢
            clear haf hlo hhi hun ho hsr
            go_simp
            exact hK
          | 8, ho, hlo, hhi, haf, hun =>
            obtain rfl := Option.some.inj ho
            have f6 := getq (show a.tmps.getD 40 undef = Value.slice (some { block := g, off := 0 }) L.length cu from haf ⟨6, .data⟩ (by simp) rfl 40 rfl)
            have f7 := getq (show a.tmps.getD 41 undef = Value.int IntKind.i64 (k : Int) from haf ⟨7, .data⟩ (by simp) rfl 41 rfl)
            obtain rfl : s = 0 := by have := hhi 0 (by decide) (.inr (by kernel_rfl)); simp at hsr; omega
            refine step_c (w' := SS 0) rfl fun K hK => ?_
            simp only [List.getElem_toArray, List.getElem_cons_succ, List.getElem_cons_zero] at hK ⊢
            clear haf hlo hhi hun ho hsr
            go_simp
            exact hK
          | 9, ho, hlo, hhi, haf, hun =>
            obtain rfl := Option.some.inj ho
            have f8 := getq (show a.tmps.getD 42 undef = .pointer (some ⟨g, k * 16, none⟩) from haf ⟨8, .data⟩ (by simp) rfl 42 rfl)
            obtain rfl : s = 0 := by have := hhi 0 (by decide) (.inr (by kernel_rfl)); simp at hsr; omega
            refine step_c (w' := SS 0) rfl fun K hK => ?_
            simp only [List.getElem_toArray, List.getElem_cons_succ, List.getElem_cons_zero] at hK ⊢
            clear haf hlo hhi hun ho hsr
            go_simp
            exact hK
          | 10, ho, hlo, hhi, haf, hun =>
            obtain rfl := Option.some.inj ho
            have f9 := getq (show a.tmps.getD 43 undef = .pointer (some ⟨g, k * 16 + 1, none⟩) from haf ⟨9, .data⟩ (by simp) rfl 43 rfl)
            obtain rfl : s = 0 := by have := hhi 0 (by decide) (.inr (by kernel_rfl)); simp at hsr; omega
            refine step_c (w' := SS 0) rfl fun K hK => ?_
            simp only [List.getElem_toArray, List.getElem_cons_succ, List.getElem_cons_zero] at hK ⊢
            clear haf hlo hhi hun ho hsr
            rw [HS0.out] at hK ⊢
            go_simp
            exact hK
          | 11, ho, hlo, hhi, haf, hun =>
            obtain rfl := Option.some.inj ho
            have f5 := getq (show a.tmps.getD 39 undef = .int .i64 (A0 : Int) from haf ⟨5, .data⟩ (by simp) rfl 39 rfl)
            have f10 := getq (show a.tmps.getD 44 undef = .int .i64 (x2 : Int) from haf ⟨10, .data⟩ (by simp) rfl 44 rfl)
            obtain rfl : s = 0 := by have := hhi 0 (by decide) (.inr (by kernel_rfl)); simp at hsr; omega
            refine step_c (w' := SS 0) rfl fun K hK => ?_
            simp only [List.getElem_toArray, List.getElem_cons_succ, List.getElem_cons_zero] at hK ⊢
            clear haf hlo hhi hun ho hsr
            go_simp
            exact hK
          | 12, ho, hlo, hhi, haf, hun =>
            obtain rfl := Option.some.inj ho
            have f11 := getq (show a.tmps.getD 45 undef = .agg #[.bool false, .int .i64 (A0 : Int), .int .i64 (x2 : Int)] from haf ⟨11, .data⟩ (by simp) rfl 45 rfl)
            obtain rfl : s = 0 := by have := hhi 0 (by decide) (.inl (by kernel_rfl)); omega
            refine step_c (w' := SS 1) rfl fun K hK => ?_
            simp only [List.getElem_toArray, List.getElem_cons_succ, List.getElem_cons_zero] at hK ⊢
            clear haf hlo hhi hun ho hsr
            rw [HS1.out] at hK
            rw [HS0.out]
            go_simp
            exact hK
          | 13, ho, hlo, hhi, haf, hun =>
            obtain rfl := Option.some.inj ho
            have f0 := getq (show a.tmps.getD 34 undef = Value.slice av E0.length cv from haf ⟨0, .data⟩ (by simp) rfl 34 rfl)
            have f12 := getq (show a.tmps.getD 46 undef = .slice (some ⟨wr.heap.size, 0, none⟩) 1 1 from haf ⟨12, .data⟩ (by simp) rfl 46 rfl)
            obtain rfl : s = 1 := by have := hlo 0 (by decide) (by kernel_rfl); have := hhi 1 (by decide) (.inl (by kernel_rfl)); omega
            refine step_c (w' := SS 2) rfl fun K hK => ?_
            simp only [List.getElem_toArray, List.getElem_cons_succ, List.getElem_cons_zero] at hK ⊢
            clear haf hlo hhi hun ho hsr
            rw [HS2.out] at hK
            rw [HS1.out]
            go_simp
            exact hK
          | 14, ho, hlo, hhi, haf, hun =>
            obtain rfl := Option.some.inj ho
            have f13 := getq (show a.tmps.getD 47 undef = .slice (some ⟨g5, 0, none⟩) (E0.length + 1) c5 from haf ⟨13, .data⟩ (by simp) rfl 47 rfl)
            obtain rfl : s = 2 := by have := hlo 1 (by decide) (by kernel_rfl); simp at hsr; omega
            refine step_c (w' := SS 2) rfl fun K hK => ?_
            simp only [List.getElem_toArray, List.getElem_cons_succ, List.getElem_cons_zero] at hK ⊢
            clear haf hlo hhi hun ho hsr
            go_simp
            exact hK
          | n + 15, ho, _, _, _, _ => simp at ho
        · intro aa hdf hsz hout hval
          have hat : aa.tmps = #[Value.slice av0 l.length c, undef, Value.slice none 0 0, .slice (some ⟨g5, 0, none⟩) (E0.length + 1) c5, Value.slice (some { block := g, off := 0 }) L.length cu, Value.int IntKind.i64 (A0 : Int), Value.int IntKind.i64 (k : Int), Value.slice av0 l.length c, Value.slice (some { block := g, off := 0 }) L.length cu, Value.int IntKind.i64 (k : Int), Value.slice (some { block := g, off := 0 }) L.length cu, Value.int IntKind.i64 (L.length : Int), Value.bool true, u13, u14, Value.slice (some { block := g, off := 0 }) L.length cu, Value.int IntKind.i64 (k : Int), Value.pointer (some { block := g, off := k * 16 }), Value.pointer (some { block := g, off := k * 16 }), Value.int IntKind.i64 (A0 : Int), Value.int IntKind.i64 (A0 : Int), Value.bool false, u22, u23, u24, u25, u26, u27, u28, u29, u30, u31, u32, u33, Value.slice av E0.length cv, Value.slice (some { block := g, off := 0 }) L.length cu, Value.int IntKind.i64 (k : Int), .pointer (some ⟨g, k * 16, none⟩), .pointer (some ⟨g, k * 16, none⟩), .int .i64 (A0 : Int), Value.slice (some { block := g, off := 0 }) L.length cu, Value.int IntKind.i64 (k : Int), .pointer (some ⟨g, k * 16, none⟩), .pointer (some ⟨g, k * 16 + 1, none⟩), .int .i64 (x2 : Int), .agg #[.bool false, .int .i64 (A0 : Int), .int .i64 (x2 : Int)], .slice (some ⟨wr.heap.size, 0, none⟩) 1 1, .slice (some ⟨g5, 0, none⟩) (E0.length + 1) c5, u48, u49, u50, u51, u52, u53, u54, u55, u56, u57, u58, undef, undef, undef, undef, undef, undef, undef, undef, undef, undef, undef, undef, undef, undef] := by
            refine arr_one (hsz.trans rfl) fun kk hkk => ?_
            match kk, hkk with
            | 0, _ => exact hout 0 (notDst_spec (by kernel_rfl))
            | 1, _ => exact hout 1 (notDst_spec (by kernel_rfl))
            | 2, _ => exact hout 2 (notDst_spec (by kernel_rfl))
            | 3, _ => exact hval 14 3 (by decide) rfl
            | 4, _ => exact hout 4 (notDst_spec (by kernel_rfl))
            | 5, _ => exact hout 5 (notDst_spec (by kernel_rfl))
            | 6, _ => exact hout 6 (notDst_spec (by kernel_rfl))
            | 7, _ => exact hout 7 (notDst_spec (by kernel_rfl))
            | 8, _ => exact hout 8 (notDst_spec (by kernel_rfl))
            | 9, _ => exact hout 9 (notDst_spec (by kernel_rfl))
            | 10, _ => exact hout 10 (notDst_spec (by kernel_rfl))
            | 11, _ => exact hout 11 (notDst_spec (by kernel_rfl))
            | 12, _ => exact hout 12 (notDst_spec (by kernel_rfl))
            | 13, _ => exact hout 13 (notDst_spec (by kernel_rfl))
            | 14, _ => exact hout 14 (notDst_spec (by kernel_rfl))
            | 15, _ => exact hout 15 (notDst_spec (by kernel_rfl))
            | 16, _ => exact hout 16 (notDst_spec (by kernel_rfl))
            | 17, _ => exact hout 17 (notDst_spec (by kernel_rfl))
            | 18, _ => exact hout 18 (notDst_spec (by kernel_rfl))
            | 19, _ => exact hout 19 (notDst_spec (by kernel_rfl))
            | 20, _ => exact hout 20 (notDst_spec (by kernel_rfl))
            | 21, _ => exact hout 21 (notDst_spec (by kernel_rfl))
            | 22, _ => exact hout 22 (notDst_spec (by kernel_rfl))
            | 23, _ => exact hout 23 (notDst_spec (by kernel_rfl))
            | 24, _ => exact hout 24 (notDst_spec (by kernel_rfl))
            | 25, _ => exact hout 25 (notDst_spec (by kernel_rfl))
            | 26, _ => exact hout 26 (notDst_spec (by kernel_rfl))
            | 27, _ => exact hout 27 (notDst_spec (by kernel_rfl))
            | 28, _ => exact hout 28 (notDst_spec (by kernel_rfl))
            | 29, _ => exact hout 29 (notDst_spec (by kernel_rfl))
            | 30, _ => exact hout 30 (notDst_spec (by kernel_rfl))
            | 31, _ => exact hout 31 (notDst_spec (by kernel_rfl))
            | 32, _ => exact hout 32 (notDst_spec (by kernel_rfl))
            | 33, _ => exact hout 33 (notDst_spec (by kernel_rfl))
            | 34, _ => exact hval 0 34 (by decide) rfl
            | 35, _ => exact hval 1 35 (by decide) rfl
            | 36, _ => exact hval 2 36 (by decide) rfl
            | 37, _ => exact hval 3 37 (by decide) rfl
            | 38, _ => exact hval 4 38 (by decide) rfl
            | 39, _ => exact hval 5 39 (by decide) rfl
            | 40, _ => exact hval 6 40 (by decide) rfl
            | 41, _ => exact hval 7 41 (by decide) rfl
            | 42, _ => exact hval 8 42 (by decide) rfl
            | 43, _ => exact hval 9 43 (by decide) rfl
            | 44, _ => exact hval 10 44 (by decide) rfl
            | 45, _ => exact hval 11 45 (by decide) rfl
            | 46, _ => exact hval 12 46 (by decide) rfl
            | 47, _ => exact hval 13 47 (by decide) rfl
            | 48, _ => exact hout 48 (notDst_spec (by kernel_rfl))
            | 49, _ => exact hout 49 (notDst_spec (by kernel_rfl))
            | 50, _ => exact hout 50 (notDst_spec (by kernel_rfl))
            | 51, _ => exact hout 51 (notDst_spec (by kernel_rfl))
            | 52, _ => exact hout 52 (notDst_spec (by kernel_rfl))
            | 53, _ => exact hout 53 (notDst_spec (by kernel_rfl))
            | 54, _ => exact hout 54 (notDst_spec (by kernel_rfl))
            | 55, _ => exact hout 55 (notDst_spec (by kernel_rfl))
            | 56, _ => exact hout 56 (notDst_spec (by kernel_rfl))
            | 57, _ => exact hout 57 (notDst_spec (by kernel_rfl))
            | 58, _ => exact hout 58 (notDst_spec (by kernel_rfl))
            | 59, _ => exact hout 59 (notDst_spec (by kernel_rfl))
            | 60, _ => exact hout 60 (notDst_spec (by kernel_rfl))
            | 61, _ => exact hout 61 (notDst_spec (by kernel_rfl))
            | 62, _ => exact hout 62 (notDst_spec (by kernel_rfl))
            | 63, _ => exact hout 63 (notDst_spec (by kernel_rfl))
            | 64, _ => exact hout 64 (notDst_spec (by kernel_rfl))
            | 65, _ => exact hout 65 (notDst_spec (by kernel_rfl))
            | 66, _ => exact hout 66 (notDst_spec (by kernel_rfl))
            | 67, _ => exact hout 67 (notDst_spec (by kernel_rfl))
            | 68, _ => exact hout 68 (notDst_spec (by kernel_rfl))
            | 69, _ => exact hout 69 (notDst_spec (by kernel_rfl))
            | 70, _ => exact hout 70 (notDst_spec (by kernel_rfl))
            | 71, _ => exact hout 71 (notDst_spec (by kernel_rfl))
            | 72, _ => exact hout 72 (notDst_spec (by kernel_rfl))
            | n + 73, h => exact absurd h (by simp)
          obtain ⟨tt, dd⟩ := aa
          simp only at hat hdf
          subst hat hdf
          clear hsz hout hval
          rw [show SS [12, 13].length = w5 from HS2.out]
          clear hap HS0 HS1
          go_wp2_with fail
          go_quiet (fail)
          go_wp2_with fail
          go_roundw
          case rel => exact ⟨k + 1, by omega, by go_num, by rw [HSN.out]; simp only [Int.natCast_add], by rw [HSN.out]; simp only; rw [HJK.out]; simp only [List.append_nil, List.map_append, List.map_cons, List.map_nil]; exact HJ5.out.drewN nq, below_drewN HB5.out nq⟩
          case measure => simp [intOf]; omega
    · obtain rfl : k = L.length := by omega
      rw [List.take_length] at HJB hcv hel htl ⊢
      obtain ⟨E0, hE0⟩ : ∃ E0, E0 = (exF L).1 := ⟨_, rfl⟩
      obtain ⟨A0, hA0⟩ : ∃ A0, A0 = (exF L).2 := ⟨_, rfl⟩
      rw [← hE0] at hel HJB hcv HEX ⊢
      rw [← hA0] at htp HEX ⊢
      have hl8 : E0.length ≤ 2400000 := by omega
      clear hE0 hA0 hel htl
      by_cases hgt : A0 < l.length
      · have hgt' : (l.length : Int) > (A0 : Int) := by omega
        have HJK : Hid (jk1 A0 l.length = [(true, (A0 : Int), (l.length : Int) - (A0 : Int))]) := hd (by unfold jk1; rw [if_neg (by omega)])
        go_wp2_with (at_builtin; refine wpList_append_jr Try.underlying28 info_ex rfl (by decide) _ rfl _ _ rfl w1.heap.size (.slice av E0.length cv) (E0.map exv) wr.heap.size 1 [.bool true, .int .i64 (A0 : Int), .int .i64 ((l.length : Int) - (A0 : Int))] rfl rfl (HJB.out.alloc _) rfl (exv_one (true, (A0 : Int), (l.length : Int) - (A0 : Int))) (fun j u hu => cell_lit wr _ _ j u _ rfl hu) (E0.length + 1) (by rw [List.length_map]) (by omega) (by unfold maxLen; omega) (by simp; omega) ?_; intro g3 c3 w3 hj3 hg3 hw3; have hb3 := ((HBr.out.alloc hsr _).grown hg3 (by simp; omega) (fun g e => HJB.out.blk_ge g e)); have HJ3 := hd hj3; have HB3 := hd hb3; clear hj3 hg3 hw3 hb3)
        go_ret
        refine ⟨_, rfl, ?_, HB.out.trans (HB3.out.mono hs1)⟩
        rw [HEX.out, HJK.out, List.map_append]
        exact HJ3.out.lower hs1
      · have hgt' : ¬ (l.length : Int) > (A0 : Int) := by omega
        have HJK : Hid (jk1 A0 l.length = []) := hd (by unfold jk1; rw [if_pos (by omega)])
        go_wp2_with fail
        go_ret
        refine ⟨_, rfl, ?_, HB.out.trans (HBr.out.mono hs1)⟩
        rw [HEX.out, HJK.out, List.append_nil]
        exact HJB.out.lower hs1
end Vt
end Go.Proofs.Ytabfgoojhangnaa
