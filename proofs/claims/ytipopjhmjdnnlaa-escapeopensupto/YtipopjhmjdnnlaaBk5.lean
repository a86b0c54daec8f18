/-
  THE WALK OF the book's settle (bk5gen.py writes its region).
-/
import Derived.Test.YtipopjhmjdnnlaaBk4
namespace Go.Proofs.Ytipopjhmjdnnlaa
open Go.RowKit
namespace Ow
open Vt
attribute [local go_sem ↓] append_hid
theorem jv_isB {w : World} {base : Nat} {v : Value} {l : List Nat} (hb : Byt l) (h : JV E8 w base v (bs l)) : IsB w v l := (jb_of hb h).isB
theorem P2.at {w W w1 wk : World} {base X m t : Nat} {VH VA : Value} {hs : List (Value × List Nat)} {al prs : List (Value × Nat × Nat)} {o : Obj} {v g h : Value} {l : List Nat} (hP : P2 w base X m VH hs al t VA prs W) (ht : hs[t]? = some (v, l))
    (hp : AppPost E8 (W.alloc o) base v (List.replicate l.length (.int .u8 ((m + 1 + t : Nat) : Int))) (.int .u8 ((m + 1 + t : Nat) : Int)) g w1)
    (hx : Ext E8 w1 base g (List.replicate l.length (.int .u8 ((m + 1 + t : Nat) : Int)) ++ [.int .u8 ((m + 1 + t : Nat) : Int)]) (.int .u8 ((m + 1 + t : Nat) : Int)) 64 h wk) :
    Blk wk X TB [.int .u8 ((m + hs.length : Nat) : Int), VH, VA] ∧ JP TK wk base VA ((al ++ ent m hs ++ prs).map kcell) := by
  have hmem : (v, l.length, m + 1 + t) ∈ al ++ ent m hs ++ prs := List.mem_append_left _ (List.mem_append_right _ (List.mem_of_getElem? (ent_at ht)))
  have hv0 := hP.sk.all _ hmem
  obtain ⟨hA, hgb⟩ := app_blk hp
  have hs1 : W.heap.size ≤ w1.heap.size := by have := hp.grown.size; simp at this; omega
  have hB : ∀ b, b < W.heap.size → some b ≠ v.ownBlock → wk.heap[b]? = W.heap[b]? := by
    intro b hb hne
    rw [hx.block b (by omega) ?_, hA b hb hne]
    rcases hgb with e | ⟨b', e, hb'⟩
    · rw [e]; exact hne
    · rw [e]; intro q; injection q with q; omega
  have hBT : ∀ b T, T ≠ E8 → BT W b T → wk.heap[b]? = W.heap[b]? := by
    intro b T hT hb
    have hlt : b < W.heap.size := by obtain ⟨c, hc⟩ := hb; exact (Array.getElem?_eq_some_iff.1 hc).1
    exact hB b hlt fun e => hb.ne (hv0.bt e.symm) hT rfl
  exact ⟨(hBT X TB (by decide) (blk_bt hP.sk.box)).trans hP.sk.box, hP.sk.krow.same fun b e => hBT b TK (by decide) (hP.sk.krow.bt e)⟩
set_option maxRecDepth 100000 in
set_option maxHeartbeats 4000000 in
theorem settle_is (base X m : Nat) (VH VA : Value) (hs : List (Value × List Nat)) (al : List (Value × Nat × Nat)) (w : World) (hK : BK w base X m VH VA hs al) (hX : base ≤ X) (hal : al.length ≤ 1000) (hm : m + hs.length ≤ 255) (hln : ∀ p ∈ hs, p.2.length ≤ 130000000000000) :
    Calls Try.prog 6 #[.pointer (some ⟨X, 0, none⟩)] w fun e w' => e = .returned (.bool true) ∧ (∃ VA' al', BK w' base X (m + hs.length) (.slice none 0 0) VA' [] al' ∧ al'.length = al.length + 3 * hs.length) ∧ Below base w w' := by
  obtain ⟨aH, cH, rfl, hcH⟩ := hK.hrow.shape
  rw [List.length_map] at hcH hK
  have HK := hd hK
  have HLN := hd hln
  have HAP : Hid (Ap hs al) := ⟨hK.hap, hK.aap⟩
  clear hK hln
  go_enter Try.func6, Try.ntmps6
  go_wp2_with fail
  go_loopw [3] (fun i wr => ∃ k : Nat, k ≤ hs.length ∧ i = .int .i64 (k : Int) ∧ Below w.heap.size w wr) (fun i _ => hs.length - (intOf i).toNat)
  case atStart => exact ⟨0, by omega, rfl, Below.refl _ _⟩
  case round =>
    obtain ⟨k, hk, rfl, hB⟩ := hrel
    obtain ⟨wo, hww⟩ : ∃ wo, wo = wr := ⟨_, rfl⟩
    subst hww
    have HR := hd (HK.out.keep hB)
    have HB := hd hB
    clear hB
    have hc1 := HR.out.box.cell 1 _ rfl
    by_cases hlt : k < hs.length
    · obtain ⟨gH, cH', e⟩ := HR.out.hrow.solid (by rw [List.length_map]; omega)
      injection e with e1 e2 e3
      subst e1 e3
      obtain ⟨p, hp⟩ : ∃ p, hs[k]? = some p := ⟨_, List.getElem?_eq_getElem hlt⟩
      have hkr := HR.out.hrow
      obtain ⟨hx1, hx2, hcm, hgl, hx3, hcc⟩ := hkr.at
      obtain ⟨q1, q2⟩ := hcc k (hcell p) (by rw [List.getElem?_map, hp]; rfl)
      have hrow := HR.out.held p (List.mem_of_getElem? hp)
      obtain ⟨v1, l1⟩ := p
      simp only [hcell] at q1 q2 hrow
      have hcv : (convert 22 9 v1).run Try.prog wo.drew = .ok (.string (str l1)) wo.drew := conv_is wo.drew v1 l1 (jv_isB hrow.2 hrow.1)
      obtain ⟨av, cv, hv, _⟩ := hrow.1.shape
      rw [bs_len] at hv
      subst hv
      have hmx : Try.prog.follows .mixedOrders = true := by kernel_rfl
      obtain ⟨SS, hSS⟩ : ∃ SS : Nat → World, SS = fun _ => wo.drew := ⟨_, rfl⟩
      have HS0 : Hid (SS 0 = wo.drew) := by show SS 0 = _; rw [hSS]
      have HSS := hd hSS
      clear hSS
      clear hkr hrow hcc hx1 hx2 hx3 e2 hcm
      have hki : ((k : Nat) : Int) < (hs.length : Int) := by omega
      go_wp2_with fail
      --REGION4
      refine region_chain (fun i => match i with
        | 0 => Value.pointer (some { block := X, off := 0 })
        | 1 => Value.pointer (some { block := X, off := 0 })
        | 2 => .pointer (some ⟨X, 1, none⟩)
        | 3 => .slice (some ⟨gH, 0, none⟩) hs.length cH
        | 4 => Value.int IntKind.i64 ↑k
        | 5 => .pointer (some ⟨gH, k * 2, none⟩)
        | 6 => .pointer (some ⟨gH, k * 2, none⟩)
        | 7 => .slice av l1.length cv
        | 8 => .string (str l1)
        | 9 => Value.pointer (some { block := X, off := 0 })
        | 10 => Value.pointer (some { block := X, off := 0 })
        | 11 => .pointer (some ⟨X, 1, none⟩)
        | 12 => .slice (some ⟨gH, 0, none⟩) hs.length cH
        | 13 => Value.int IntKind.i64 ↑k
        | 14 => .pointer (some ⟨gH, k * 2, none⟩)
        | 15 => .pointer (some ⟨gH, k * 2 + 1, none⟩)
        | 16 => .string (str l1)
        | 17 => .bool false
        | _ => undef) [] SS hmx (by kernel_rfl) (by kernel_rfl) (by kernel_rfl) (by kernel_rfl) HS0.out ?_ ?_ (by decide)
      · intro i o ho s a hsr hlo hhi hout haf hun
        have e0 := getq (show a.tmps.getD 0 undef = Value.pointer (some { block := X, off := 0 }) from hout 0 (notDst_spec (by kernel_rfl)))
        have e3 := getq (show a.tmps.getD 3 undef = Value.int IntKind.i64 ↑k from hout 3 (notDst_spec (by kernel_rfl)))
        clear hout
        match i, ho, hlo, hhi, haf, hun with
        | 0, ho, hlo, hhi, haf, hun =>
          obtain rfl := Option.some.inj ho
          obtain rfl : s = 0 := by simp at hsr; omega
          refine step_c (w' := SS 0) rfl fun K hK => ?_
          simp only [List.getElem_toArray, List.getElem_cons_zero] at hK ⊢
          clear haf hlo hhi hun ho hsr
          go_simp
          exact hK
        | 1, ho, hlo, hhi, haf, hun =>
          obtain rfl := Option.some.inj ho
          have f0 := getq (show a.tmps.getD 23 undef = Value.pointer (some { block := X, off := 0 }) from haf ⟨0, .data⟩ (by simp) rfl 23 rfl)
          obtain rfl : s = 0 := by simp at hsr; omega
          refine step_c (w' := SS 0) rfl fun K hK => ?_
          simp only [List.getElem_toArray, List.getElem_cons_succ, List.getElem_cons_zero] at hK ⊢
          clear haf hlo hhi hun ho hsr
          go_simp
          exact hK
        | 2, ho, hlo, hhi, haf, hun =>
          obtain rfl := Option.some.inj ho
          have f1 := getq (show a.tmps.getD 24 undef = Value.pointer (some { block := X, off := 0 }) from haf ⟨1, .data⟩ (by simp) rfl 24 rfl)
          obtain rfl : s = 0 := by simp at hsr; omega
          refine step_c (w' := SS 0) rfl fun K hK => ?_
          simp only [List.getElem_toArray, List.getElem_cons_succ, List.getElem_cons_zero] at hK ⊢
          clear haf hlo hhi hun ho hsr
          go_simp
          exact hK
        | 3, ho, hlo, hhi, haf, hun =>
          obtain rfl := Option.some.inj ho
          have f2 := getq (show a.tmps.getD 25 undef = .pointer (some ⟨X, 1, none⟩) from haf ⟨2, .data⟩ (by simp) rfl 25 rfl)
          obtain rfl : s = 0 := by simp at hsr; omega
          refine step_c (w' := SS 0) rfl fun K hK => ?_
          simp only [List.getElem_toArray, List.getElem_cons_succ, List.getElem_cons_zero] at hK ⊢
          clear haf hlo hhi hun ho hsr
          rw [HSS.out] at hK ⊢
          go_simp
          exact hK
        | 4, ho, hlo, hhi, haf, hun =>
          obtain rfl := Option.some.inj ho
          obtain rfl : s = 0 := by simp at hsr; omega
          refine step_c (w' := SS 0) rfl fun K hK => ?_
          simp only [List.getElem_toArray, List.getElem_cons_succ, List.getElem_cons_zero] at hK ⊢
          clear haf hlo hhi hun ho hsr
          go_simp
          exact hK
        | 5, ho, hlo, hhi, haf, hun =>
          obtain rfl := Option.some.inj ho
          have f3 := getq (show a.tmps.getD 26 undef = .slice (some ⟨gH, 0, none⟩) hs.length cH from haf ⟨3, .data⟩ (by simp) rfl 26 rfl)
          have f4 := getq (show a.tmps.getD 27 undef = Value.int IntKind.i64 ↑k from haf ⟨4, .data⟩ (by simp) rfl 27 rfl)
          obtain rfl : s = 0 := by simp at hsr; omega
          refine step_c (w' := SS 0) rfl fun K hK => ?_
          simp only [List.getElem_toArray, List.getElem_cons_succ, List.getElem_cons_zero] at hK ⊢
          clear haf hlo hhi hun ho hsr
          go_simp
          exact hK
        | 6, ho, hlo, hhi, haf, hun =>
          obtain rfl := Option.some.inj ho
          have f5 := getq (show a.tmps.getD 28 undef = .pointer (some ⟨gH, k * 2, none⟩) from haf ⟨5, .data⟩ (by simp) rfl 28 rfl)
          obtain rfl : s = 0 := by simp at hsr; omega
          refine step_c (w' := SS 0) rfl fun K hK => ?_
          simp only [List.getElem_toArray, List.getElem_cons_succ, List.getElem_cons_zero] at hK ⊢
          clear haf hlo hhi hun ho hsr
          go_simp
          exact hK
        | 7, ho, hlo, hhi, haf, hun =>
          obtain rfl := Option.some.inj ho
          have f6 := getq (show a.tmps.getD 29 undef = .pointer (some ⟨gH, k * 2, none⟩) from haf ⟨6, .data⟩ (by simp) rfl 29 rfl)
          obtain rfl : s = 0 := by simp at hsr; omega
          refine step_c (w' := SS 0) rfl fun K hK => ?_
          simp only [List.getElem_toArray, List.getElem_cons_succ, List.getElem_cons_zero] at hK ⊢
          clear haf hlo hhi hun ho hsr
          rw [HSS.out] at hK ⊢
          go_simp
          exact hK
        | 8, ho, hlo, hhi, haf, hun =>
          obtain rfl := Option.some.inj ho
          have f7 := getq (show a.tmps.getD 30 undef = .slice av l1.length cv from haf ⟨7, .data⟩ (by simp) rfl 30 rfl)
          obtain rfl : s = 0 := by simp at hsr; omega
          refine step_c (w' := SS 0) rfl fun K hK => ?_
          simp only [List.getElem_toArray, List.getElem_cons_succ, List.getElem_cons_zero] at hK ⊢
          clear haf hlo hhi hun ho hsr
          rw [HSS.out] at hK ⊢
          go_simp
          exact hK
        | 9, ho, hlo, hhi, haf, hun =>
          obtain rfl := Option.some.inj ho
          obtain rfl : s = 0 := by simp at hsr; omega
          refine step_c (w' := SS 0) rfl fun K hK => ?_
          simp only [List.getElem_toArray, List.getElem_cons_succ, List.getElem_cons_zero] at hK ⊢
          clear haf hlo hhi hun ho hsr
          go_simp
          exact hK
        | 10, ho, hlo, hhi, haf, hun =>
          obtain rfl := Option.some.inj ho
          have f9 := getq (show a.tmps.getD 32 undef = Value.pointer (some { block := X, off := 0 }) from haf ⟨9, .data⟩ (by simp) rfl 32 rfl)
          obtain rfl : s = 0 := by simp at hsr; omega
          refine step_c (w' := SS 0) rfl fun K hK => ?_
          simp only [List.getElem_toArray, List.getElem_cons_succ, List.getElem_cons_zero] at hK ⊢
          clear haf hlo hhi hun ho hsr
          go_simp
          exact hK
        | 11, ho, hlo, hhi, haf, hun =>
          obtain rfl := Option.some.inj ho
          have f10 := getq (show a.tmps.getD 33 undef = Value.pointer (some { block := X, off := 0 }) from haf ⟨10, .data⟩ (by simp) rfl 33 rfl)
          obtain rfl : s = 0 := by simp at hsr; omega
          refine step_c (w' := SS 0) rfl fun K hK => ?_
          simp only [List.getElem_toArray, List.getElem_cons_succ, List.getElem_cons_zero] at hK ⊢
          clear haf hlo hhi hun ho hsr
          go_simp
          exact hK
        | 12, ho, hlo, hhi, haf, hun =>
          obtain rfl := Option.some.inj ho
          have f11 := getq (show a.tmps.getD 34 undef = .pointer (some ⟨X, 1, none⟩) from haf ⟨11, .data⟩ (by simp) rfl 34 rfl)
          obtain rfl : s = 0 := by simp at hsr; omega
          refine step_c (w' := SS 0) rfl fun K hK => ?_
          simp only [List.getElem_toArray, List.getElem_cons_succ, List.getElem_cons_zero] at hK ⊢
          clear haf hlo hhi hun ho hsr
          rw [HSS.out] at hK ⊢
          go_simp
          exact hK
        | 13, ho, hlo, hhi, haf, hun =>
          obtain rfl := Option.some.inj ho
          obtain rfl : s = 0 := by simp at hsr; omega
          refine step_c (w' := SS 0) rfl fun K hK => ?_
          simp only [List.getElem_toArray, List.getElem_cons_succ, List.getElem_cons_zero] at hK ⊢
          clear haf hlo hhi hun ho hsr
          go_simp
          exact hK
        | 14, ho, hlo, hhi, haf, hun =>
          obtain rfl := Option.some.inj ho
          have f12 := getq (show a.tmps.getD 35 undef = .slice (some ⟨gH, 0, none⟩) hs.length cH from haf ⟨12, .data⟩ (by simp) rfl 35 rfl)
          have f13 := getq (show a.tmps.getD 36 undef = Value.int IntKind.i64 ↑k from haf ⟨13, .data⟩ (by simp) rfl 36 rfl)
          obtain rfl : s = 0 := by simp at hsr; omega
          refine step_c (w' := SS 0) rfl fun K hK => ?_
          simp only [List.getElem_toArray, List.getElem_cons_succ, List.getElem_cons_zero] at hK ⊢
          clear haf hlo hhi hun ho hsr
          go_simp
          exact hK
        | 15, ho, hlo, hhi, haf, hun =>
          obtain rfl := Option.some.inj ho
          have f14 := getq (show a.tmps.getD 37 undef = .pointer (some ⟨gH, k * 2, none⟩) from haf ⟨14, .data⟩ (by simp) rfl 37 rfl)
          obtain rfl : s = 0 := by simp at hsr; omega
          refine step_c (w' := SS 0) rfl fun K hK => ?_
          simp only [List.getElem_toArray, List.getElem_cons_succ, List.getElem_cons_zero] at hK ⊢
          clear haf hlo hhi hun ho hsr
          go_simp
          exact hK
        | 16, ho, hlo, hhi, haf, hun =>
          obtain rfl := Option.some.inj ho
          have f15 := getq (show a.tmps.getD 38 undef = .pointer (some ⟨gH, k * 2 + 1, none⟩) from haf ⟨15, .data⟩ (by simp) rfl 38 rfl)
          obtain rfl : s = 0 := by simp at hsr; omega
          refine step_c (w' := SS 0) rfl fun K hK => ?_
          simp only [List.getElem_toArray, List.getElem_cons_succ, List.getElem_cons_zero] at hK ⊢
          clear haf hlo hhi hun ho hsr
          rw [HSS.out] at hK ⊢
          go_simp
          exact hK
        | 17, ho, hlo, hhi, haf, hun =>
          obtain rfl := Option.some.inj ho
          have f8 := getq (show a.tmps.getD 31 undef = .string (str l1) from haf ⟨8, .data⟩ (by simp) rfl 31 rfl)
          have f16 := getq (show a.tmps.getD 39 undef = .string (str l1) from haf ⟨16, .data⟩ (by simp) rfl 39 rfl)
          obtain rfl : s = 0 := by simp at hsr; omega
          refine step_c (w' := SS 0) rfl fun K hK => ?_
          simp only [List.getElem_toArray, List.getElem_cons_succ, List.getElem_cons_zero] at hK ⊢
          clear haf hlo hhi hun ho hsr
          go_simp
          exact hK
        | n + 18, ho, _, _, _, _ => simp at ho
      · intro aa hdf hsz hout hval
        have hat : aa.tmps = #[Value.pointer (some { block := X, off := 0 }), undef, u2, Value.int IntKind.i64 ↑k, undef, undef, undef, undef, undef, undef, undef, undef, undef, undef, Value.int IntKind.i64 ↑k, Value.pointer (some { block := X, off := 0 }), Value.pointer (some { block := X, off := 0 }), Value.pointer (some { block := X, off := 1 }), Value.slice (some { block := gH, off := 0 }) hs.length cH, Value.int IntKind.i64 ↑hs.length, Value.bool true, u21, u22, Value.pointer (some { block := X, off := 0 }), Value.pointer (some { block := X, off := 0 }), .pointer (some ⟨X, 1, none⟩), .slice (some ⟨gH, 0, none⟩) hs.length cH, Value.int IntKind.i64 ↑k, .pointer (some ⟨gH, k * 2, none⟩), .pointer (some ⟨gH, k * 2, none⟩), .slice av l1.length cv, .string (str l1), Value.pointer (some { block := X, off := 0 }), Value.pointer (some { block := X, off := 0 }), .pointer (some ⟨X, 1, none⟩), .slice (some ⟨gH, 0, none⟩) hs.length cH, Value.int IntKind.i64 ↑k, .pointer (some ⟨gH, k * 2, none⟩), .pointer (some ⟨gH, k * 2 + 1, none⟩), .string (str l1), .bool false, undef, undef, undef, undef, undef, undef, undef, undef, undef, undef, undef, undef, undef, undef, undef, undef, undef, undef, undef, undef, undef, undef, undef, undef, undef, undef, undef, undef, undef, undef, undef, undef, undef, undef, undef, undef, undef, undef, undef, undef, undef, undef, undef, undef, undef, undef, undef, undef, undef, undef, undef, undef, undef, undef, undef, undef, undef, undef, undef, undef, undef, undef, undef, undef, undef, undef, undef, undef, undef, undef, undef, undef, undef, undef, undef, undef, undef, undef, undef, undef, undef, undef, undef, undef, undef, undef, undef, undef, undef, undef, undef, undef, undef, undef, undef, undef, undef, undef, undef, undef, undef, undef, undef, undef, undef, undef, undef, undef, undef, undef, undef, undef, undef, undef, undef] := by
          refine arr_one (hsz.trans rfl) fun kk hkk => ?_
          match kk, hkk with
          | 0, _ => exact hout 0 (notDst_spec (by kernel_rfl))
          | 1, _ => exact hout 1 (notDst_spec (by kernel_rfl))
          | 2, _ => exact hout 2 (notDst_spec (by kernel_rfl))
          | 3, _ => exact hout 3 (notDst_spec (by kernel_rfl))
          | 4, _ => exact hout 4 (notDst_spec (by kernel_rfl))
          | 5, _ => exact hout 5 (notDst_spec (by kernel_rfl))
          | 6, _ => exact hout 6 (notDst_spec (by kernel_rfl))
          | 7, _ => exact hout 7 (notDst_spec (by kernel_rfl))
          | 8, _ => exact hout 8 (notDst_spec (by kernel_rfl))
          | 9, _ => exact hout 9 (notDst_spec (by kernel_rfl))
          | 10, _ => exact hout 10 (notDst_spec (by kernel_rfl))
          | 11, _ => exact hout 11 (notDst_spec (by kernel_rfl))
          | 12, _ => exact hout 12 (notDst_spec (by kernel_rfl))
          | 13, _ => exact hout 13 (notDst_spec (by kernel_rfl))
          | 14, _ => exact hout 14 (notDst_spec (by kernel_rfl))
          | 15, _ => exact hout 15 (notDst_spec (by kernel_rfl))
          | 16, _ => exact hout 16 (notDst_spec (by kernel_rfl))
          | 17, _ => exact hout 17 (notDst_spec (by kernel_rfl))
          | 18, _ => exact hout 18 (notDst_spec (by kernel_rfl))
          | 19, _ => exact hout 19 (notDst_spec (by kernel_rfl))
          | 20, _ => exact hout 20 (notDst_spec (by kernel_rfl))
          | 21, _ => exact hout 21 (notDst_spec (by kernel_rfl))
          | 22, _ => exact hout 22 (notDst_spec (by kernel_rfl))
          | 23, _ => exact hval 0 23 (by decide) rfl
          | 24, _ => exact hval 1 24 (by decide) rfl
          | 25, _ => exact hval 2 25 (by decide) rfl
          | 26, _ => exact hval 3 26 (by decide) rfl
          | 27, _ => exact hval 4 27 (by decide) rfl
          | 28, _ => exact hval 5 28 (by decide) rfl
          | 29, _ => exact hval 6 29 (by decide) rfl
          | 30, _ => exact hval 7 30 (by decide) rfl
          | 31, _ => exact hval 8 31 (by decide) rfl
          | 32, _ => exact hval 9 32 (by decide) rfl
          | 33, _ => exact hval 10 33 (by decide) rfl
          | 34, _ => exact hval 11 34 (by decide) rfl
          | 35, _ => exact hval 12 35 (by decide) rfl
          | 36, _ => exact hval 13 36 (by decide) rfl
          | 37, _ => exact hval 14 37 (by decide) rfl
          | 38, _ => exact hval 15 38 (by decide) rfl
          | 39, _ => exact hval 16 39 (by decide) rfl
          | 40, _ => exact hval 17 40 (by decide) rfl
          | 41, _ => exact hout 41 (notDst_spec (by kernel_rfl))
          | 42, _ => exact hout 42 (notDst_spec (by kernel_rfl))
          | 43, _ => exact hout 43 (notDst_spec (by kernel_rfl))
          | 44, _ => exact hout 44 (notDst_spec (by kernel_rfl))
          | 45, _ => exact hout 45 (notDst_spec (by kernel_rfl))
          | 46, _ => exact hout 46 (notDst_spec (by kernel_rfl))
          | 47, _ => exact hout 47 (notDst_spec (by kernel_rfl))
          | 48, _ => exact hout 48 (notDst_spec (by kernel_rfl))
          | 49, _ => exact hout 49 (notDst_spec (by kernel_rfl))
          | 50, _ => exact hout 50 (notDst_spec (by kernel_rfl))
          | 51, _ => exact hout 51 (notDst_spec (by kernel_rfl))
          | 52, _ => exact hout 52 (notDst_spec (by kernel_rfl))
          | 53, _ => exact hout 53 (notDst_spec (by kernel_rfl))
          | 54, _ => exact hout 54 (notDst_spec (by kernel_rfl))
          | 55, _ => exact hout 55 (notDst_spec (by kernel_rfl))
          | 56, _ => exact hout 56 (notDst_spec (by kernel_rfl))
          | 57, _ => exact hout 57 (notDst_spec (by kernel_rfl))
          | 58, _ => exact hout 58 (notDst_spec (by kernel_rfl))
          | 59, _ => exact hout 59 (notDst_spec (by kernel_rfl))
          | 60, _ => exact hout 60 (notDst_spec (by kernel_rfl))
          | 61, _ => exact hout 61 (notDst_spec (by kernel_rfl))
          | 62, _ => exact hout 62 (notDst_spec (by kernel_rfl))
          | 63, _ => exact hout 63 (notDst_spec (by kernel_rfl))
          | 64, _ => exact hout 64 (notDst_spec (by kernel_rfl))
          | 65, _ => exact hout 65 (notDst_spec (by kernel_rfl))
          | 66, _ => exact hout 66 (notDst_spec (by kernel_rfl))
          | 67, _ => exact hout 67 (notDst_spec (by kernel_rfl))
          | 68, _ => exact hout 68 (notDst_spec (by kernel_rfl))
          | 69, _ => exact hout 69 (notDst_spec (by kernel_rfl))
          | 70, _ => exact hout 70 (notDst_spec (by kernel_rfl))
          | 71, _ => exact hout 71 (notDst_spec (by kernel_rfl))
          | 72, _ => exact hout 72 (notDst_spec (by kernel_rfl))
          | 73, _ => exact hout 73 (notDst_spec (by kernel_rfl))
          | 74, _ => exact hout 74 (notDst_spec (by kernel_rfl))
          | 75, _ => exact hout 75 (notDst_spec (by kernel_rfl))
          | 76, _ => exact hout 76 (notDst_spec (by kernel_rfl))
          | 77, _ => exact hout 77 (notDst_spec (by kernel_rfl))
          | 78, _ => exact hout 78 (notDst_spec (by kernel_rfl))
          | 79, _ => exact hout 79 (notDst_spec (by kernel_rfl))
          | 80, _ => exact hout 80 (notDst_spec (by kernel_rfl))
          | 81, _ => exact hout 81 (notDst_spec (by kernel_rfl))
          | 82, _ => exact hout 82 (notDst_spec (by kernel_rfl))
          | 83, _ => exact hout 83 (notDst_spec (by kernel_rfl))
          | 84, _ => exact hout 84 (notDst_spec (by kernel_rfl))
          | 85, _ => exact hout 85 (notDst_spec (by kernel_rfl))
          | 86, _ => exact hout 86 (notDst_spec (by kernel_rfl))
          | 87, _ => exact hout 87 (notDst_spec (by kernel_rfl))
          | 88, _ => exact hout 88 (notDst_spec (by kernel_rfl))
          | 89, _ => exact hout 89 (notDst_spec (by kernel_rfl))
          | 90, _ => exact hout 90 (notDst_spec (by kernel_rfl))
          | 91, _ => exact hout 91 (notDst_spec (by kernel_rfl))
          | 92, _ => exact hout 92 (notDst_spec (by kernel_rfl))
          | 93, _ => exact hout 93 (notDst_spec (by kernel_rfl))
          | 94, _ => exact hout 94 (notDst_spec (by kernel_rfl))
          | 95, _ => exact hout 95 (notDst_spec (by kernel_rfl))
          | 96, _ => exact hout 96 (notDst_spec (by kernel_rfl))
          | 97, _ => exact hout 97 (notDst_spec (by kernel_rfl))
          | 98, _ => exact hout 98 (notDst_spec (by kernel_rfl))
          | 99, _ => exact hout 99 (notDst_spec (by kernel_rfl))
          | 100, _ => exact hout 100 (notDst_spec (by kernel_rfl))
          | 101, _ => exact hout 101 (notDst_spec (by kernel_rfl))
          | 102, _ => exact hout 102 (notDst_spec (by kernel_rfl))
          | 103, _ => exact hout 103 (notDst_spec (by kernel_rfl))
          | 104, _ => exact hout 104 (notDst_spec (by kernel_rfl))
          | 105, _ => exact hout 105 (notDst_spec (by kernel_rfl))
          | 106, _ => exact hout 106 (notDst_spec (by kernel_rfl))
          | 107, _ => exact hout 107 (notDst_spec (by kernel_rfl))
          | 108, _ => exact hout 108 (notDst_spec (by kernel_rfl))
          | 109, _ => exact hout 109 (notDst_spec (by kernel_rfl))
          | 110, _ => exact hout 110 (notDst_spec (by kernel_rfl))
          | 111, _ => exact hout 111 (notDst_spec (by kernel_rfl))
          | 112, _ => exact hout 112 (notDst_spec (by kernel_rfl))
          | 113, _ => exact hout 113 (notDst_spec (by kernel_rfl))
          | 114, _ => exact hout 114 (notDst_spec (by kernel_rfl))
          | 115, _ => exact hout 115 (notDst_spec (by kernel_rfl))
          | 116, _ => exact hout 116 (notDst_spec (by kernel_rfl))
          | 117, _ => exact hout 117 (notDst_spec (by kernel_rfl))
          | 118, _ => exact hout 118 (notDst_spec (by kernel_rfl))
          | 119, _ => exact hout 119 (notDst_spec (by kernel_rfl))
          | 120, _ => exact hout 120 (notDst_spec (by kernel_rfl))
          | 121, _ => exact hout 121 (notDst_spec (by kernel_rfl))
          | 122, _ => exact hout 122 (notDst_spec (by kernel_rfl))
          | 123, _ => exact hout 123 (notDst_spec (by kernel_rfl))
          | 124, _ => exact hout 124 (notDst_spec (by kernel_rfl))
          | 125, _ => exact hout 125 (notDst_spec (by kernel_rfl))
          | 126, _ => exact hout 126 (notDst_spec (by kernel_rfl))
          | 127, _ => exact hout 127 (notDst_spec (by kernel_rfl))
          | 128, _ => exact hout 128 (notDst_spec (by kernel_rfl))
          | 129, _ => exact hout 129 (notDst_spec (by kernel_rfl))
          | 130, _ => exact hout 130 (notDst_spec (by kernel_rfl))
          | 131, _ => exact hout 131 (notDst_spec (by kernel_rfl))
          | 132, _ => exact hout 132 (notDst_spec (by kernel_rfl))
          | 133, _ => exact hout 133 (notDst_spec (by kernel_rfl))
          | 134, _ => exact hout 134 (notDst_spec (by kernel_rfl))
          | 135, _ => exact hout 135 (notDst_spec (by kernel_rfl))
          | 136, _ => exact hout 136 (notDst_spec (by kernel_rfl))
          | 137, _ => exact hout 137 (notDst_spec (by kernel_rfl))
          | 138, _ => exact hout 138 (notDst_spec (by kernel_rfl))
          | 139, _ => exact hout 139 (notDst_spec (by kernel_rfl))
          | 140, _ => exact hout 140 (notDst_spec (by kernel_rfl))
          | 141, _ => exact hout 141 (notDst_spec (by kernel_rfl))
          | 142, _ => exact hout 142 (notDst_spec (by kernel_rfl))
          | 143, _ => exact hout 143 (notDst_spec (by kernel_rfl))
          | 144, _ => exact hout 144 (notDst_spec (by kernel_rfl))
          | 145, _ => exact hout 145 (notDst_spec (by kernel_rfl))
          | 146, _ => exact hout 146 (notDst_spec (by kernel_rfl))
          | 147, _ => exact hout 147 (notDst_spec (by kernel_rfl))
          | 148, _ => exact hout 148 (notDst_spec (by kernel_rfl))
          | 149, _ => exact hout 149 (notDst_spec (by kernel_rfl))
          | 150, _ => exact hout 150 (notDst_spec (by kernel_rfl))
          | 151, _ => exact hout 151 (notDst_spec (by kernel_rfl))
          | 152, _ => exact hout 152 (notDst_spec (by kernel_rfl))
          | 153, _ => exact hout 153 (notDst_spec (by kernel_rfl))
          | 154, _ => exact hout 154 (notDst_spec (by kernel_rfl))
          | 155, _ => exact hout 155 (notDst_spec (by kernel_rfl))
          | n + 156, h => exact absurd h (by simp)
        obtain ⟨tt, dd⟩ := aa
        simp only at hat hdf
        subst hat hdf
        clear hsz hout hval
        rw [show SS [].length = wo.drew from HS0.out]
        go_wp2_with fail
        exact ⟨⟨k + 1, by omega, by go_num, HB.out.drew⟩, by simp [intOf]; omega⟩
      --END4
    · obtain rfl : k = hs.length := by omega
      clear hlt hk
      have hc2 := HR.out.box.cell 2 _ rfl
      obtain ⟨aA, cA, rfl, hcA⟩ := HR.out.krow.shape
      rw [List.length_map] at hcA HR HK hc2
      go_wp2_with fail
      go_loopw [5] (fun i wr => ∃ (k : Nat) (VA : Value), k ≤ hs.length ∧ i = .int .i64 (k : Int) ∧ P1 w base X m (.slice aH hs.length cH) hs al (m + k) k VA wr) (fun i _ => hs.length - (intOf i).toNat)
      case atStart => exact ⟨0, _, by omega, rfl, ⟨by simpa using HR.out.sk, fun s p _ hp => (HR.out.held p (List.mem_of_getElem? hp)).1, HB.out.mono (by have := HK.out.box.lt; omega)⟩⟩
      case round =>
        clear HR HB hc1 hc2
        obtain ⟨k, VB, hk, rfl, hP⟩ := hrel
        obtain ⟨wp, hww⟩ : ∃ wp, wp = wr := ⟨_, rfl⟩
        subst hww
        have HP := hd hP
        have hc1 := hP.sk.box.cell 1 _ rfl
        clear hP
        by_cases hlt : k < hs.length
        · obtain ⟨gH, cH', e⟩ := HP.out.sk.hrow.solid (by rw [List.length_map]; omega)
          injection e with e1 e2 e3
          subst e1 e3
          obtain ⟨aB, cB, hVB, hcB⟩ := HP.out.sk.krow.shape
          have hlen : ((al ++ (ent m hs).take k).map kcell).length = al.length + k := by simp [ent_len]; omega
          rw [hlen] at hVB hcB
          subst hVB
          obtain ⟨p, hp⟩ : ∃ p, hs[k]? = some p := ⟨_, List.getElem?_eq_getElem hlt⟩
          have hkr := HP.out.sk.hrow
          obtain ⟨hx1, hx2, hcm, hgl, hx3, hcc⟩ := hkr.at
          obtain ⟨q1, _⟩ := hcc k (hcell p) (by rw [List.getElem?_map, hp]; rfl)
          obtain ⟨v1, l1⟩ := p
          simp only [hcell] at q1
          have HMK := hd (HP.out.mark hX hp)
          obtain ⟨av, cv, hv, hcv⟩ := (HP.out.rest k _ (Nat.le_refl _) hp).shape
          simp only [bs_len] at hv hcv
          subst hv
          have HHP : Hid (hs[k]? = some (.slice av l1.length cv, l1)) := hp
          have hll := HLN.out _ (List.mem_of_getElem? hp)
          have hc0 := HP.out.sk.box.cell 0 _ rfl
          have hf0 := HP.out.sk.box.frozen 0
          have hgX : ¬ gH = X := (HP.out.sk.hrow.bt rfl).ne (blk_bt HP.out.sk.box) (by decide)
          clear hkr hcc hx1 hx2 hx3 e2 hcm hlen hp
          simp only at hll
          have hki : ((k : Nat) : Int) < (hs.length : Int) := by omega
          obtain ⟨M, hM⟩ : ∃ M : Nat, M = m + 1 + k := ⟨_, rfl⟩
          have HM := hd hM
          have hM2 : M ≤ 255 := by omega
          have hmk : IntKind.u8.wrap ((m + k : Nat) + 1 : Int) = (M : Int) := by rw [IntKind.wrap_u8]; omega
          have hmz : (m : Int) + (k : Int) + 1 = (M : Int) := by omega
          have HMZ := hd hmz
          clear hM hmz
          go_wp2_with fail
          rw [HMZ.out]
          clear hc0 hf0 hc1 q1 hmk
          go_loopw [7] (fun i wr => ∃ kk : Nat, kk ≤ l1.length ∧ i = .int .i64 (kk : Int) ∧ P1i w base X m (.slice (some ⟨gH, 0, none⟩) hs.length cH) hs al k (.slice av l1.length cv) l1 (.slice aB (al.length + k) cB) kk wr) (fun i _ => l1.length - (intOf i).toNat)
          case atStart => exact ⟨0, by omega, rfl, by rw [HM.out]; exact HMK.out⟩
          case round =>
            clear HMK HP
            obtain ⟨kk, hkk, rfl, hQ⟩ := hrel
            obtain ⟨wq, hww⟩ : ∃ wq, wq = wr := ⟨_, rfl⟩
            subst hww
            have HQ := hd hQ
            have hc0 : wq.cell? ⟨X, 0, none⟩ = some (.int .u8 (M : Int)) := by rw [HM.out]; exact hQ.sk.box.cell 0 _ rfl
            clear hQ
            by_cases hkl : kk < l1.length
            · have hcl : (List.replicate kk (Value.int .u8 ((m + 1 + k : Nat) : Int)) ++ (bs l1).drop kk).length = l1.length := by simp [bs_len]; omega
              obtain ⟨g1, c1, e⟩ := HQ.out.cur.solid (by rw [hcl]; omega)
              injection e with e1 e2 e3
              subst e1 e3
              have HPUT := hd (HQ.out.put HAP.out HHP.out hkl rfl)
              obtain ⟨hx1, hx2, hcm, hgl1, hx3, hcc⟩ := HQ.out.cur.at
              obtain ⟨hcj, hfj⟩ := hcc kk _ (List.getElem?_eq_getElem (by rw [hcl]; exact hkl))
              have hkki : ((kk : Nat) : Int) < (l1.length : Int) := by omega
              rw [← HM.out] at HPUT
              generalize (List.replicate kk (Value.int .u8 ((m + 1 + k : Nat) : Int)) ++ (bs l1).drop kk)[kk]'(by rw [hcl]; exact hkl) = uo at hcj
              clear hcl hx1 hx2 hx3 hcc e2 hcm
              go_wp2_with fail
              exact ⟨⟨kk + 1, by omega, by go_num, HPUT.out⟩, by simp [intOf]; omega⟩
            · obtain rfl : kk = l1.length := by omega
              clear hkk hkl
              have hb0 : base ≤ wq.heap.size := Nat.le_of_lt (Nat.lt_of_le_of_lt hX HQ.out.sk.box.lt)
              have hlen : ((al ++ (ent m hs).take k).map kcell).length = al.length + k := by simp [ent_len]; omega
              have hmx : Try.prog.follows .mixedOrders = true := by kernel_rfl
              have hlit : ∀ j u, (pc [(Value.slice av l1.length cv, Value.int .u8 (M : Int))])[j]? = some u → ((wq.alloc (.cells #[.slice av l1.length cv, .int .u8 (M : Int)] TK)).drew).cell? ((⟨wq.heap.size, 0, none⟩ : Addr).add j) = some u := by
                intro j u hj
                rw [add_at, Nat.zero_add]
                exact (World.cell?_alloc_new ..).trans (by simpa [pc] using hj)
              obtain ⟨g2, c2, w2, hr2, j2, hg2, hw2⟩ := run_append_jp Try.underlying25 info_kept rfl 25 (wq.alloc (.cells #[.slice av l1.length cv, .int .u8 (M : Int)] TK)).drew base (.slice aB (al.length + k) cB) ((al ++ (ent m hs).take k).map kcell) [(.slice av l1.length cv, .int .u8 (M : Int))] ⟨wq.heap.size, 0, none⟩ 1 1 (HQ.out.sk.krow.below ((Below.refl _ _).alloc (Nat.le_refl _) _)).drew (by intro p hp; simp at hp; subst hp; exact ⟨rfl, rfl⟩) rfl (by decide) hlit (by rw [hlen]; omega) (by rw [hlen]; unfold maxLen; omega) (by show base ≤ (wq.alloc _).heap.size; simp; omega)
              rw [hlen] at hr2 j2
              rw [append_hid] at hr2
              obtain ⟨SS, hS0, hS1, hS2, hS3⟩ : ∃ SS : Nat → World, SS 0 = wq.drew ∧ SS 1 = (wq.alloc (.cells #[.slice av l1.length cv, .int .u8 (M : Int)] TK)).drew ∧ SS 2 = w2 ∧ SS 3 = w2.setCell ⟨X, 2, none⟩ (.slice (some ⟨g2, 0, none⟩) (al.length + k + 1) c2) := ⟨fun s => match s with | 0 => _ | 1 => _ | 2 => _ | _ => _, rfl, rfl, rfl, rfl⟩
              have C0 : (SS 0).cell? ⟨X, 2, none⟩ = some (.slice aB (al.length + k) cB) := by rw [hS0]; exact HQ.out.sk.box.cell 2 _ rfl
              have C1 : (SS 1).cell? ⟨X, 2, none⟩ = some (.slice aB (al.length + k) cB) := by rw [hS1]; exact (HQ.out.sk.box.alloc _).cell 2 _ rfl
              have hbox2 : Blk w2 X TB [.int .u8 ((m + 1 + k : Nat) : Int), .slice (some ⟨gH, 0, none⟩) hs.length cH, .slice aB (al.length + k) cB] := by
                refine Blk.grown (W := (wq.alloc (.cells #[.slice av l1.length cv, .int .u8 (M : Int)] TK)).drew) (HQ.out.sk.box.alloc _) hg2 fun e => ?_
                exact (blk_bt HQ.out.sk.box).ne (HQ.out.sk.krow.bt e.symm) (by decide) rfl
              have hfr := hbox2.frozen 2
              have hcX := hbox2.cell 2 _ rfl
              have hgd : (wq.alloc (.cells #[.slice av l1.length cv, .int .u8 (M : Int)] TK)).grownBy w2 (Value.slice aB (al.length + k) cB).ownBlock := ⟨hg2.os, hg2.tape, hg2.output, hg2.size, hg2.block⟩
              have HFIN : Hid (P1 w base X m (.slice (some ⟨gH, 0, none⟩) hs.length cH) hs al (m + (k + 1)) (k + 1) (.slice (some ⟨g2, 0, none⟩) (al.length + k + 1) c2) (w2.setCell ⟨X, 2, none⟩ (.slice (some ⟨g2, 0, none⟩) (al.length + k + 1) c2))) := by
                show P1 w base X m _ hs al (m + (k + 1)) (k + 1) _ _
                rw [show m + (k + 1) = m + 1 + k by omega]
                rw [HM.out] at j2 hgd
                exact HQ.out.note hX HHP.out hgd j2
              have HS1 := hd hS1
              have HS2 := hd hS2
              have HS3 := hd hS3
              have HS0 := hd hS0
              clear hS0 hS1 hS2 hS3 hbox2 j2 hg2 hw2 hlit hgd hlen HQ
              go_wp2_with fail
              --REGION16
              refine region_chain (fun i => match i with
                | 0 => Value.pointer (some { block := X, off := 0 })
                | 1 => Value.pointer (some { block := X, off := 0 })
                | 2 => Value.pointer (some { block := X, off := 0 })
                | 3 => .pointer (some ⟨X, 2, none⟩)
                | 4 => .slice aB (al.length + k) cB
                | 5 => Value.slice av l1.length cv
                | 6 => Value.pointer (some { block := X, off := 0 })
                | 7 => Value.pointer (some { block := X, off := 0 })
                | 8 => .pointer (some ⟨X, 0, none⟩)
                | 9 => .int .u8 (M : Int)
                | 10 => .agg #[.slice av l1.length cv, .int .u8 (M : Int)]
                | 11 => .slice (some ⟨wq.heap.size, 0, none⟩) 1 1
                | 12 => .slice (some ⟨g2, 0, none⟩) (al.length + k + 1) c2
                | 13 => Value.pointer (some { block := X, off := 0 })
                | 14 => .pointer (some ⟨X, 2, none⟩)
                | 15 => undef
                | _ => undef) [11, 12, 15] SS hmx (by kernel_rfl) (by kernel_rfl) (by kernel_rfl) (by kernel_rfl) HS0.out ?_ ?_ (by decide)
              · intro i o ho s a hsr hlo hhi hout haf hun
                have e0 := getq (show a.tmps.getD 0 undef = Value.pointer (some { block := X, off := 0 }) from hout 0 (notDst_spec (by kernel_rfl)))
                have e6 := getq (show a.tmps.getD 6 undef = Value.slice av l1.length cv from hout 6 (notDst_spec (by kernel_rfl)))
                clear hout
                match i, ho, hlo, hhi, haf, hun with
                | 0, ho, hlo, hhi, haf, hun =>
                  obtain rfl := Option.some.inj ho
                  refine step_c (w' := SS s) rfl fun K hK => ?_
                  simp only [List.getElem_toArray, List.getElem_cons_zero] at hK ⊢
                  clear haf hlo hhi hun ho hsr
                  go_simp
                  exact hK
                | 1, ho, hlo, hhi, haf, hun =>
                  obtain rfl := Option.some.inj ho
                  refine step_c (w' := SS s) rfl fun K hK => ?_
                  simp only [List.getElem_toArray, List.getElem_cons_succ, List.getElem_cons_zero] at hK ⊢
                  clear haf hlo hhi hun ho hsr
                  go_simp
                  exact hK
                | 2, ho, hlo, hhi, haf, hun =>
                  obtain rfl := Option.some.inj ho
                  have f1 := getq (show a.tmps.getD 85 undef = Value.pointer (some { block := X, off := 0 }) from haf ⟨1, .data⟩ (by simp) rfl 85 rfl)
                  refine step_c (w' := SS s) rfl fun K hK => ?_
                  simp only [List.getElem_toArray, List.getElem_cons_succ, List.getElem_cons_zero] at hK ⊢
                  clear haf hlo hhi hun ho hsr
                  go_simp
                  exact hK
                | 3, ho, hlo, hhi, haf, hun =>
                  obtain rfl := Option.some.inj ho
                  have f2 := getq (show a.tmps.getD 86 undef = Value.pointer (some { block := X, off := 0 }) from haf ⟨2, .data⟩ (by simp) rfl 86 rfl)
                  refine step_c (w' := SS s) rfl fun K hK => ?_
                  simp only [List.getElem_toArray, List.getElem_cons_succ, List.getElem_cons_zero] at hK ⊢
                  clear haf hlo hhi hun ho hsr
                  go_simp
                  exact hK
                | 4, ho, hlo, hhi, haf, hun =>
                  obtain rfl := Option.some.inj ho
                  have f3 := getq (show a.tmps.getD 87 undef = .pointer (some ⟨X, 2, none⟩) from haf ⟨3, .data⟩ (by simp) rfl 87 rfl)
                  have hst : s = 0 ∨ s = 1 := by have := hhi 1 (by decide) (.inr (by kernel_rfl)); simp at hsr; omega
                  refine step_c (w' := SS s) rfl fun K hK => ?_
                  simp only [List.getElem_toArray, List.getElem_cons_succ, List.getElem_cons_zero] at hK ⊢
                  clear haf hlo hhi hun ho hsr
                  have hc : (SS s).cell? ⟨X, 2, none⟩ = some (.slice aB (al.length + k) cB) := by rcases hst with rfl | rfl; exact C0; exact C1
                  go_simp
                  exact hK
                | 5, ho, hlo, hhi, haf, hun =>
                  obtain rfl := Option.some.inj ho
                  obtain rfl : s = 0 := by have := hhi 0 (by decide) (.inr (by kernel_rfl)); simp at hsr; omega
                  refine step_c (w' := SS 0) rfl fun K hK => ?_
                  simp only [List.getElem_toArray, List.getElem_cons_succ, List.getElem_cons_zero] at hK ⊢
                  clear haf hlo hhi hun ho hsr
                  go_simp
                  exact hK
                | 6, ho, hlo, hhi, haf, hun =>
                  obtain rfl := Option.some.inj ho
                  obtain rfl : s = 0 := by have := hhi 0 (by decide) (.inr (by kernel_rfl)); simp at hsr; omega
                  refine step_c (w' := SS 0) rfl fun K hK => ?_
                  simp only [List.getElem_toArray, List.getElem_cons_succ, List.getElem_cons_zero] at hK ⊢
                  clear haf hlo hhi hun ho hsr
                  go_simp
                  exact hK
                | 7, ho, hlo, hhi, haf, hun =>
                  obtain rfl := Option.some.inj ho
                  have f6 := getq (show a.tmps.getD 90 undef = Value.pointer (some { block := X, off := 0 }) from haf ⟨6, .data⟩ (by simp) rfl 90 rfl)
                  obtain rfl : s = 0 := by have := hhi 0 (by decide) (.inr (by kernel_rfl)); simp at hsr; omega
                  refine step_c (w' := SS 0) rfl fun K hK => ?_
                  simp only [List.getElem_toArray, List.getElem_cons_succ, List.getElem_cons_zero] at hK ⊢
                  clear haf hlo hhi hun ho hsr
                  go_simp
                  exact hK
                | 8, ho, hlo, hhi, haf, hun =>
                  obtain rfl := Option.some.inj ho
                  have f7 := getq (show a.tmps.getD 91 undef = Value.pointer (some { block := X, off := 0 }) from haf ⟨7, .data⟩ (by simp) rfl 91 rfl)
                  obtain rfl : s = 0 := by have := hhi 0 (by decide) (.inr (by kernel_rfl)); simp at hsr; omega
                  refine step_c (w' := SS 0) rfl fun K hK => ?_
                  simp only [List.getElem_toArray, List.getElem_cons_succ, List.getElem_cons_zero] at hK ⊢
                  clear haf hlo hhi hun ho hsr
                  go_simp
                  exact hK
                | 9, ho, hlo, hhi, haf, hun =>
                  obtain rfl := Option.some.inj ho
                  have f8 := getq (show a.tmps.getD 92 undef = .pointer (some ⟨X, 0, none⟩) from haf ⟨8, .data⟩ (by simp) rfl 92 rfl)
                  obtain rfl : s = 0 := by have := hhi 0 (by decide) (.inr (by kernel_rfl)); simp at hsr; omega
                  refine step_c (w' := SS 0) rfl fun K hK => ?_
                  simp only [List.getElem_toArray, List.getElem_cons_succ, List.getElem_cons_zero] at hK ⊢
                  clear haf hlo hhi hun ho hsr
                  rw [HS0.out] at hK ⊢
                  go_simp
                  exact hK
                | 10, ho, hlo, hhi, haf, hun =>
                  obtain rfl := Option.some.inj ho
                  have f5 := getq (show a.tmps.getD 89 undef = Value.slice av l1.length cv from haf ⟨5, .data⟩ (by simp) rfl 89 rfl)
                  have f9 := getq (show a.tmps.getD 93 undef = .int .u8 (M : Int) from haf ⟨9, .data⟩ (by simp) rfl 93 rfl)
                  obtain rfl : s = 0 := by have := hhi 0 (by decide) (.inr (by kernel_rfl)); simp at hsr; omega
                  refine step_c (w' := SS 0) rfl fun K hK => ?_
                  simp only [List.getElem_toArray, List.getElem_cons_succ, List.getElem_cons_zero] at hK ⊢
                  clear haf hlo hhi hun ho hsr
                  go_simp
                  exact hK
                | 11, ho, hlo, hhi, haf, hun =>
                  obtain rfl := Option.some.inj ho
                  have f10 := getq (show a.tmps.getD 94 undef = .agg #[.slice av l1.length cv, .int .u8 (M : Int)] from haf ⟨10, .data⟩ (by simp) rfl 94 rfl)
                  obtain rfl : s = 0 := by have := hhi 0 (by decide) (.inl (by kernel_rfl)); omega
                  refine step_c (w' := SS 1) rfl fun K hK => ?_
                  simp only [List.getElem_toArray, List.getElem_cons_succ, List.getElem_cons_zero] at hK ⊢
                  clear haf hlo hhi hun ho hsr
                  rw [HS1.out] at hK
                  rw [HS0.out]
                  go_simp
                  exact hK
                | 12, ho, hlo, hhi, haf, hun =>
                  obtain rfl := Option.some.inj ho
                  have f4 := getq (show a.tmps.getD 88 undef = .slice aB (al.length + k) cB from haf ⟨4, .data⟩ (by simp) rfl 88 rfl)
                  have f11 := getq (show a.tmps.getD 95 undef = .slice (some ⟨wq.heap.size, 0, none⟩) 1 1 from haf ⟨11, .data⟩ (by simp) rfl 95 rfl)
                  obtain rfl : s = 1 := by have := hlo 0 (by decide) (by kernel_rfl); have := hhi 1 (by decide) (.inl (by kernel_rfl)); omega
                  refine step_c (w' := SS 2) rfl fun K hK => ?_
                  simp only [List.getElem_toArray, List.getElem_cons_succ, List.getElem_cons_zero] at hK ⊢
                  clear haf hlo hhi hun ho hsr
                  rw [HS2.out] at hK
                  rw [HS1.out]
                  go_simp
                  exact hK
                | 13, ho, hlo, hhi, haf, hun =>
                  obtain rfl := Option.some.inj ho
                  have f0 := getq (show a.tmps.getD 84 undef = Value.pointer (some { block := X, off := 0 }) from haf ⟨0, .data⟩ (by simp) rfl 84 rfl)
                  obtain rfl : s = 2 := by have := hlo 1 (by decide) (by kernel_rfl); have := hhi 2 (by decide) (.inr (by kernel_rfl)); simp at hsr; omega
                  refine step_c (w' := SS 2) rfl fun K hK => ?_
                  simp only [List.getElem_toArray, List.getElem_cons_succ, List.getElem_cons_zero] at hK ⊢
                  clear haf hlo hhi hun ho hsr
                  go_simp
                  exact hK
                | 14, ho, hlo, hhi, haf, hun =>
                  obtain rfl := Option.some.inj ho
                  have f13 := getq (show a.tmps.getD 97 undef = Value.pointer (some { block := X, off := 0 }) from haf ⟨13, .data⟩ (by simp) rfl 97 rfl)
                  obtain rfl : s = 2 := by have := hlo 1 (by decide) (by kernel_rfl); have := hhi 2 (by decide) (.inr (by kernel_rfl)); simp at hsr; omega
                  refine step_c (w' := SS 2) rfl fun K hK => ?_
                  simp only [List.getElem_toArray, List.getElem_cons_succ, List.getElem_cons_zero] at hK ⊢
                  clear haf hlo hhi hun ho hsr
                  go_simp
                  exact hK
                | 15, ho, hlo, hhi, haf, hun =>
                  obtain rfl := Option.some.inj ho
                  have f14 := getq (show a.tmps.getD 98 undef = .pointer (some ⟨X, 2, none⟩) from haf ⟨14, .data⟩ (by simp) rfl 98 rfl)
                  have f12 := getq (show a.tmps.getD 96 undef = .slice (some ⟨g2, 0, none⟩) (al.length + k + 1) c2 from haf ⟨12, .data⟩ (by simp) rfl 96 rfl)
                  obtain rfl : s = 2 := by have := hlo 1 (by decide) (by kernel_rfl); have := hhi 2 (by decide) (.inl (by kernel_rfl)); omega
                  refine step_c (w' := SS 3) rfl fun K hK => ?_
                  simp only [List.getElem_toArray, List.getElem_cons_succ, List.getElem_cons_zero] at hK ⊢
                  clear haf hlo hhi hun ho hsr
                  rw [HS3.out] at hK
                  rw [HS2.out]
                  go_simp
                  exact hK
                | n + 16, ho, _, _, _, _ => simp at ho
              · intro aa hdf hsz hout hval
                have hat : aa.tmps = #[Value.pointer (some { block := X, off := 0 }), undef, u2, Value.int IntKind.i64 ↑hs.length, Value.int IntKind.i64 ↑al.length, Value.int IntKind.i64 ↑k, Value.slice av l1.length cv, Value.int IntKind.i64 ↑l1.length, undef, undef, undef, undef, undef, undef, Value.int IntKind.i64 ↑hs.length, Value.pointer (some { block := X, off := 0 }), Value.pointer (some { block := X, off := 0 }), Value.pointer (some { block := X, off := 1 }), Value.slice (some { block := gH, off := 0 }) hs.length cH, Value.int IntKind.i64 ↑hs.length, Value.bool false, u21, u22, u23, u24, u25, u26, u27, u28, u29, u30, u31, u32, u33, u34, u35, u36, u37, u38, u39, u40, Value.pointer (some { block := X, off := 0 }), Value.pointer (some { block := X, off := 0 }), Value.pointer (some { block := X, off := 2 }), Value.slice aA al.length cA, Value.int IntKind.i64 ↑al.length, Value.int IntKind.i64 ↑k, Value.pointer (some { block := X, off := 0 }), Value.pointer (some { block := X, off := 0 }), Value.pointer (some { block := X, off := 1 }), Value.slice (some { block := gH, off := 0 }) hs.length cH, Value.int IntKind.i64 ↑hs.length, Value.bool true, u53, u54, Value.pointer (some { block := X, off := 0 }), Value.pointer (some { block := X, off := 0 }), Value.pointer (some { block := X, off := 0 }), Value.pointer (some { block := X, off := 0 }), Value.int IntKind.u8 (↑m + ↑k), Value.int IntKind.u8 ↑M, Value.pointer (some { block := X, off := 0 }), Value.pointer (some { block := X, off := 0 }), Value.pointer (some { block := X, off := 0 }), Value.pointer (some { block := X, off := 0 }), Value.pointer (some { block := X, off := 1 }), Value.slice (some { block := gH, off := 0 }) hs.length cH, Value.int IntKind.i64 ↑k, Value.pointer (some { block := gH, off := k * 2 }), Value.pointer (some { block := gH, off := k * 2 }), Value.slice av l1.length cv, Value.int IntKind.i64 ↑l1.length, Value.slice av l1.length cv, Value.int IntKind.i64 ↑l1.length, Value.bool false, u75, u76, u77, u78, u79, u80, u81, u82, u83, Value.pointer (some { block := X, off := 0 }), Value.pointer (some { block := X, off := 0 }), Value.pointer (some { block := X, off := 0 }), .pointer (some ⟨X, 2, none⟩), .slice aB (al.length + k) cB, Value.slice av l1.length cv, Value.pointer (some { block := X, off := 0 }), Value.pointer (some { block := X, off := 0 }), .pointer (some ⟨X, 0, none⟩), .int .u8 (M : Int), .agg #[.slice av l1.length cv, .int .u8 (M : Int)], .slice (some ⟨wq.heap.size, 0, none⟩) 1 1, .slice (some ⟨g2, 0, none⟩) (al.length + k + 1) c2, Value.pointer (some { block := X, off := 0 }), .pointer (some ⟨X, 2, none⟩), undef, undef, undef, undef, undef, undef, undef, undef, undef, undef, undef, undef, undef, undef, undef, undef, undef, undef, undef, undef, undef, undef, undef, undef, undef, undef, undef, undef, undef, undef, undef, undef, undef, undef, undef, undef, undef, undef, undef, undef, undef, undef, undef, undef, undef, undef, undef, undef, undef, undef, undef, undef, undef, undef, undef, undef, undef] := by
                  refine arr_one (hsz.trans rfl) fun kk hkk => ?_
                  match kk, hkk with
                  | 0, _ => exact hout 0 (notDst_spec (by kernel_rfl))
                  | 1, _ => exact hout 1 (notDst_spec (by kernel_rfl))
                  | 2, _ => exact hout 2 (notDst_spec (by kernel_rfl))
                  | 3, _ => exact hout 3 (notDst_spec (by kernel_rfl))
                  | 4, _ => exact hout 4 (notDst_spec (by kernel_rfl))
                  | 5, _ => exact hout 5 (notDst_spec (by kernel_rfl))
                  | 6, _ => exact hout 6 (notDst_spec (by kernel_rfl))
                  | 7, _ => exact hout 7 (notDst_spec (by kernel_rfl))
                  | 8, _ => exact hout 8 (notDst_spec (by kernel_rfl))
                  | 9, _ => exact hout 9 (notDst_spec (by kernel_rfl))
                  | 10, _ => exact hout 10 (notDst_spec (by kernel_rfl))
                  | 11, _ => exact hout 11 (notDst_spec (by kernel_rfl))
                  | 12, _ => exact hout 12 (notDst_spec (by kernel_rfl))
                  | 13, _ => exact hout 13 (notDst_spec (by kernel_rfl))
                  | 14, _ => exact hout 14 (notDst_spec (by kernel_rfl))
                  | 15, _ => exact hout 15 (notDst_spec (by kernel_rfl))
                  | 16, _ => exact hout 16 (notDst_spec (by kernel_rfl))
                  | 17, _ => exact hout 17 (notDst_spec (by kernel_rfl))
                  | 18, _ => exact hout 18 (notDst_spec (by kernel_rfl))
                  | 19, _ => exact hout 19 (notDst_spec (by kernel_rfl))
                  | 20, _ => exact hout 20 (notDst_spec (by kernel_rfl))
                  | 21, _ => exact hout 21 (notDst_spec (by kernel_rfl))
                  | 22, _ => exact hout 22 (notDst_spec (by kernel_rfl))
                  | 23, _ => exact hout 23 (notDst_spec (by kernel_rfl))
                  | 24, _ => exact hout 24 (notDst_spec (by kernel_rfl))
                  | 25, _ => exact hout 25 (notDst_spec (by kernel_rfl))
                  | 26, _ => exact hout 26 (notDst_spec (by kernel_rfl))
                  | 27, _ => exact hout 27 (notDst_spec (by kernel_rfl))
                  | 28, _ => exact hout 28 (notDst_spec (by kernel_rfl))
                  | 29, _ => exact hout 29 (notDst_spec (by kernel_rfl))
                  | 30, _ => exact hout 30 (notDst_spec (by kernel_rfl))
                  | 31, _ => exact hout 31 (notDst_spec (by kernel_rfl))
                  | 32, _ => exact hout 32 (notDst_spec (by kernel_rfl))
                  | 33, _ => exact hout 33 (notDst_spec (by kernel_rfl))
                  | 34, _ => exact hout 34 (notDst_spec (by kernel_rfl))
                  | 35, _ => exact hout 35 (notDst_spec (by kernel_rfl))
                  | 36, _ => exact hout 36 (notDst_spec (by kernel_rfl))
                  | 37, _ => exact hout 37 (notDst_spec (by kernel_rfl))
                  | 38, _ => exact hout 38 (notDst_spec (by kernel_rfl))
                  | 39, _ => exact hout 39 (notDst_spec (by kernel_rfl))
                  | 40, _ => exact hout 40 (notDst_spec (by kernel_rfl))
                  | 41, _ => exact hout 41 (notDst_spec (by kernel_rfl))
                  | 42, _ => exact hout 42 (notDst_spec (by kernel_rfl))
                  | 43, _ => exact hout 43 (notDst_spec (by kernel_rfl))
                  | 44, _ => exact hout 44 (notDst_spec (by kernel_rfl))
                  | 45, _ => exact hout 45 (notDst_spec (by kernel_rfl))
                  | 46, _ => exact hout 46 (notDst_spec (by kernel_rfl))
                  | 47, _ => exact hout 47 (notDst_spec (by kernel_rfl))
                  | 48, _ => exact hout 48 (notDst_spec (by kernel_rfl))
                  | 49, _ => exact hout 49 (notDst_spec (by kernel_rfl))
                  | 50, _ => exact hout 50 (notDst_spec (by kernel_rfl))
                  | 51, _ => exact hout 51 (notDst_spec (by kernel_rfl))
                  | 52, _ => exact hout 52 (notDst_spec (by kernel_rfl))
                  | 53, _ => exact hout 53 (notDst_spec (by kernel_rfl))
                  | 54, _ => exact hout 54 (notDst_spec (by kernel_rfl))
                  | 55, _ => exact hout 55 (notDst_spec (by kernel_rfl))
                  | 56, _ => exact hout 56 (notDst_spec (by kernel_rfl))
                  | 57, _ => exact hout 57 (notDst_spec (by kernel_rfl))
                  | 58, _ => exact hout 58 (notDst_spec (by kernel_rfl))
                  | 59, _ => exact hout 59 (notDst_spec (by kernel_rfl))
                  | 60, _ => exact hout 60 (notDst_spec (by kernel_rfl))
                  | 61, _ => exact hout 61 (notDst_spec (by kernel_rfl))
                  | 62, _ => exact hout 62 (notDst_spec (by kernel_rfl))
                  | 63, _ => exact hout 63 (notDst_spec (by kernel_rfl))
                  | 64, _ => exact hout 64 (notDst_spec (by kernel_rfl))
                  | 65, _ => exact hout 65 (notDst_spec (by kernel_rfl))
                  | 66, _ => exact hout 66 (notDst_spec (by kernel_rfl))
                  | 67, _ => exact hout 67 (notDst_spec (by kernel_rfl))
                  | 68, _ => exact hout 68 (notDst_spec (by kernel_rfl))
                  | 69, _ => exact hout 69 (notDst_spec (by kernel_rfl))
                  | 70, _ => exact hout 70 (notDst_spec (by kernel_rfl))
                  | 71, _ => exact hout 71 (notDst_spec (by kernel_rfl))
                  | 72, _ => exact hout 72 (notDst_spec (by kernel_rfl))
                  | 73, _ => exact hout 73 (notDst_spec (by kernel_rfl))
                  | 74, _ => exact hout 74 (notDst_spec (by kernel_rfl))
                  | 75, _ => exact hout 75 (notDst_spec (by kernel_rfl))
                  | 76, _ => exact hout 76 (notDst_spec (by kernel_rfl))
                  | 77, _ => exact hout 77 (notDst_spec (by kernel_rfl))
                  | 78, _ => exact hout 78 (notDst_spec (by kernel_rfl))
                  | 79, _ => exact hout 79 (notDst_spec (by kernel_rfl))
                  | 80, _ => exact hout 80 (notDst_spec (by kernel_rfl))
                  | 81, _ => exact hout 81 (notDst_spec (by kernel_rfl))
                  | 82, _ => exact hout 82 (notDst_spec (by kernel_rfl))
                  | 83, _ => exact hout 83 (notDst_spec (by kernel_rfl))
                  | 84, _ => exact hval 0 84 (by decide) rfl
                  | 85, _ => exact hval 1 85 (by decide) rfl
                  | 86, _ => exact hval 2 86 (by decide) rfl
                  | 87, _ => exact hval 3 87 (by decide) rfl
                  | 88, _ => exact hval 4 88 (by decide) rfl
                  | 89, _ => exact hval 5 89 (by decide) rfl
                  | 90, _ => exact hval 6 90 (by decide) rfl
                  | 91, _ => exact hval 7 91 (by decide) rfl
                  | 92, _ => exact hval 8 92 (by decide) rfl
                  | 93, _ => exact hval 9 93 (by decide) rfl
                  | 94, _ => exact hval 10 94 (by decide) rfl
                  | 95, _ => exact hval 11 95 (by decide) rfl
                  | 96, _ => exact hval 12 96 (by decide) rfl
                  | 97, _ => exact hval 13 97 (by decide) rfl
                  | 98, _ => exact hval 14 98 (by decide) rfl
                  | 99, _ => exact hout 99 (notDst_spec (by kernel_rfl))
                  | 100, _ => exact hout 100 (notDst_spec (by kernel_rfl))
                  | 101, _ => exact hout 101 (notDst_spec (by kernel_rfl))
                  | 102, _ => exact hout 102 (notDst_spec (by kernel_rfl))
                  | 103, _ => exact hout 103 (notDst_spec (by kernel_rfl))
                  | 104, _ => exact hout 104 (notDst_spec (by kernel_rfl))
                  | 105, _ => exact hout 105 (notDst_spec (by kernel_rfl))
                  | 106, _ => exact hout 106 (notDst_spec (by kernel_rfl))
                  | 107, _ => exact hout 107 (notDst_spec (by kernel_rfl))
                  | 108, _ => exact hout 108 (notDst_spec (by kernel_rfl))
                  | 109, _ => exact hout 109 (notDst_spec (by kernel_rfl))
                  | 110, _ => exact hout 110 (notDst_spec (by kernel_rfl))
                  | 111, _ => exact hout 111 (notDst_spec (by kernel_rfl))
                  | 112, _ => exact hout 112 (notDst_spec (by kernel_rfl))
                  | 113, _ => exact hout 113 (notDst_spec (by kernel_rfl))
                  | 114, _ => exact hout 114 (notDst_spec (by kernel_rfl))
                  | 115, _ => exact hout 115 (notDst_spec (by kernel_rfl))
                  | 116, _ => exact hout 116 (notDst_spec (by kernel_rfl))
                  | 117, _ => exact hout 117 (notDst_spec (by kernel_rfl))
                  | 118, _ => exact hout 118 (notDst_spec (by kernel_rfl))
                  | 119, _ => exact hout 119 (notDst_spec (by kernel_rfl))
                  | 120, _ => exact hout 120 (notDst_spec (by kernel_rfl))
                  | 121, _ => exact hout 121 (notDst_spec (by kernel_rfl))
                  | 122, _ => exact hout 122 (notDst_spec (by kernel_rfl))
                  | 123, _ => exact hout 123 (notDst_spec (by kernel_rfl))
                  | 124, _ => exact hout 124 (notDst_spec (by kernel_rfl))
                  | 125, _ => exact hout 125 (notDst_spec (by kernel_rfl))
                  | 126, _ => exact hout 126 (notDst_spec (by kernel_rfl))
                  | 127, _ => exact hout 127 (notDst_spec (by kernel_rfl))
                  | 128, _ => exact hout 128 (notDst_spec (by kernel_rfl))
                  | 129, _ => exact hout 129 (notDst_spec (by kernel_rfl))
                  | 130, _ => exact hout 130 (notDst_spec (by kernel_rfl))
                  | 131, _ => exact hout 131 (notDst_spec (by kernel_rfl))
                  | 132, _ => exact hout 132 (notDst_spec (by kernel_rfl))
                  | 133, _ => exact hout 133 (notDst_spec (by kernel_rfl))
                  | 134, _ => exact hout 134 (notDst_spec (by kernel_rfl))
                  | 135, _ => exact hout 135 (notDst_spec (by kernel_rfl))
                  | 136, _ => exact hout 136 (notDst_spec (by kernel_rfl))
                  | 137, _ => exact hout 137 (notDst_spec (by kernel_rfl))
                  | 138, _ => exact hout 138 (notDst_spec (by kernel_rfl))
                  | 139, _ => exact hout 139 (notDst_spec (by kernel_rfl))
                  | 140, _ => exact hout 140 (notDst_spec (by kernel_rfl))
                  | 141, _ => exact hout 141 (notDst_spec (by kernel_rfl))
                  | 142, _ => exact hout 142 (notDst_spec (by kernel_rfl))
                  | 143, _ => exact hout 143 (notDst_spec (by kernel_rfl))
                  | 144, _ => exact hout 144 (notDst_spec (by kernel_rfl))
                  | 145, _ => exact hout 145 (notDst_spec (by kernel_rfl))
                  | 146, _ => exact hout 146 (notDst_spec (by kernel_rfl))
                  | 147, _ => exact hout 147 (notDst_spec (by kernel_rfl))
                  | 148, _ => exact hout 148 (notDst_spec (by kernel_rfl))
                  | 149, _ => exact hout 149 (notDst_spec (by kernel_rfl))
                  | 150, _ => exact hout 150 (notDst_spec (by kernel_rfl))
                  | 151, _ => exact hout 151 (notDst_spec (by kernel_rfl))
                  | 152, _ => exact hout 152 (notDst_spec (by kernel_rfl))
                  | 153, _ => exact hout 153 (notDst_spec (by kernel_rfl))
                  | 154, _ => exact hout 154 (notDst_spec (by kernel_rfl))
                  | 155, _ => exact hout 155 (notDst_spec (by kernel_rfl))
                  | n + 156, h => exact absurd h (by simp)
                obtain ⟨tt, dd⟩ := aa
                simp only at hat hdf
                subst hat hdf
                clear hsz hout hval
                rw [show SS [11, 12, 15].length = w2.setCell ⟨X, 2, none⟩ (.slice (some ⟨g2, 0, none⟩) (al.length + k + 1) c2) from HS3.out]
                go_wp2_with fail
                exact ⟨⟨k + 1, _, by omega, by go_num, HFIN.out⟩, by simp [intOf]; omega⟩
              --END16
        · obtain rfl : k = hs.length := by omega
          obtain ⟨aB, cB, hVB, hcB⟩ := HP.out.sk.krow.shape
          have hlen : ((al ++ (ent m hs).take hs.length).map kcell).length = al.length + hs.length := by simp [ent_len]
          rw [hlen] at hVB hcB
          subst hVB
          have hc2 := HP.out.sk.box.cell 2 _ rfl
          clear hlen hcA hk hlt
          have H2 := hd HP.out.two
          clear HP
          go_wp2_with fail
          go_loopw [9] (fun i wr => ∃ (t I : Nat) (VB : Value) (prs : List (Value × Nat × Nat)), t ≤ hs.length ∧ I = al.length + t ∧ i = .int .i64 (I : Int) ∧ P2 w base X m (.slice aH hs.length cH) hs al t VB prs wr) (fun i _ => al.length + hs.length - (intOf i).toNat)
          case atStart => exact ⟨0, al.length, _, _, by omega, rfl, rfl, H2.out⟩
          case round =>
            clear H2 hc1 hc2
            obtain ⟨t, I, VC, prs, ht, hI, rfl, hQ⟩ := hrel
            obtain ⟨wq, hww⟩ : ∃ wq, wq = wr := ⟨_, rfl⟩
            subst hww
            have HQ := hd hQ
            clear hQ
            by_cases hlt : t < hs.length
            · obtain ⟨p, hp⟩ : ∃ p, hs[t]? = some p := ⟨_, List.getElem?_eq_getElem hlt⟩
              obtain ⟨v1, l1⟩ := p
              have hll := HLN.out _ (List.mem_of_getElem? hp)
              simp only at hll
              have hpe : (al ++ ent m hs ++ prs)[I]? = some (v1, l1.length, m + 1 + t) := by
                rw [hI, List.getElem?_append_left (by rw [List.length_append, ent_len]; omega), List.getElem?_append_right (by omega), show al.length + t - al.length = t by omega]
                exact ent_at hp
              have hlen : ((al ++ ent m hs ++ prs).map kcell).length = al.length + hs.length + 2 * t := by simp [ent_len, HQ.out.len]; omega
              obtain ⟨gC, cC, e⟩ := HQ.out.sk.krow.solid (by rw [hlen]; omega)
              obtain ⟨NC, hNC⟩ : ∃ NC, NC = al.length + hs.length + 2 * t := ⟨_, rfl⟩
              rw [hlen, ← hNC] at e
              subst e
              obtain ⟨hx1, hx2, hcm, hgl, hx3, hcc⟩ := HQ.out.sk.krow.at
              obtain ⟨q1, q2⟩ := hcc I (kcell (v1, l1.length, m + 1 + t)) (by rw [List.getElem?_map, hpe]; rfl)
              simp only [kcell] at q1 q2
              have hvr := HQ.out.sk.all _ (List.mem_of_getElem? hpe)
              simp only at hvr
              obtain ⟨av, cv, hv, hcv⟩ := hvr.shape
              rw [List.length_replicate] at hv hcv
              subst hv
              obtain ⟨M, hM⟩ : ∃ M : Nat, M = m + 1 + t := ⟨_, rfl⟩
              rw [← hM] at q2 hvr
              have HM := hd hM
              have hM2 : M ≤ 255 := by omega
              have HPP : Hid (hs[t]? = some (.slice av l1.length cv, l1)) := hp
              have HVR := hd (fun o => hvr.below ((Below.refl wq.heap.size wq).alloc (Nat.le_refl _) o))
              have hc2 := HQ.out.sk.box.cell 2 _ rfl
              have hb0 : base ≤ wq.heap.size := Nat.le_of_lt (Nat.lt_of_le_of_lt hX HQ.out.sk.box.lt)
              have hIl : (I : Int) < (al.length : Int) + (hs.length : Int) := by omega
              have hIN : (I : Int) < (NC : Int) := by omega
              have hINn : I < NC := by omega
              have hNC2 : NC ≤ 2000 := by omega
              have HI : Hid (I + 1 = al.length + (t + 1)) := by show _ = _; omega
              have HNC := hd hNC
              have HLEN := hd hlen
              clear hM hI hNC hlen hx1 hx2 hx3 hcm hcc hpe hp hvr
              go_wp2_with (at_builtin; refine wpList_append_keep (E := E8) (S := 22) (z := .int .u8 0) (by_ := 1) Try.underlying22 info_u8 rfl _ rfl _ _ rfl base _ (List.replicate l1.length (.int .u8 (M : Int))) ⟨wq.heap.size, 0, none⟩ 1 (.int .u8 (M : Int)) rfl rfl (HVR.out _) (World.cell?_alloc_new _ _ _ _) rfl (l1.length + 1) (by rw [List.length_replicate]) (by omega) (by unfold maxLen; omega) (by simp; omega) ?_; intro a3 c3 w3 hP3; have HP3 := hd hP3; clear hP3)
              clear q1 q2 hc2
              go_loopw [12, 13] (fun v i wr => ∃ (kk : Nat) (a4 : Option Addr) (c4 : Nat), kk ≤ 64 ∧ i = .int .i64 (kk : Int) ∧ v = .slice a4 (l1.length + 1 + kk) c4 ∧ Ext E8 w3 base (.slice a3 (l1.length + 1) c3) (List.replicate l1.length (.int .u8 (M : Int)) ++ [.int .u8 (M : Int)]) (.int .u8 (M : Int)) kk v wr) (fun _ i _ => 64 - (intOf i).toNat)
              case atStart => exact ⟨0, a3, c3, by omega, rfl, rfl, Ext.start HP3.out.row _⟩
              case round =>
                obtain ⟨kk, a4, c4, hkk, rfl, rfl, hX4⟩ := hrel
                have HX := hd hX4
                have hrl : ((List.replicate l1.length (Value.int .u8 (M : Int)) ++ [Value.int .u8 (M : Int)]) ++ List.replicate kk (Value.int .u8 (M : Int))).length = l1.length + 1 + kk := by simp; omega
                have HRL := hd hrl
                have HJA := hd (fun o => hX4.row.below ((Below.refl wr.heap.size wr).alloc (Nat.le_refl _) o))
                have HWS : Hid (base ≤ wr.heap.size) := by
                  have h1 := hX4.size
                  have h2 := HP3.out.grown.size
                  simp at h2
                  show base ≤ wr.heap.size
                  omega
                clear hX4 hrl
                by_cases hk64 : kk < 64
                · have hki : ((kk : Nat) : Int) < 64 := by omega
                  go_wp2_with (at_builtin; refine wpList_append_keep (E := E8) (S := 22) (z := .int .u8 0) (by_ := 1) Try.underlying22 info_u8 rfl _ rfl _ _ rfl base _ ((List.replicate l1.length (Value.int .u8 (M : Int)) ++ [.int .u8 (M : Int)]) ++ List.replicate kk (.int .u8 (M : Int))) ⟨wr.heap.size, 0, none⟩ 1 (.int .u8 (M : Int)) rfl rfl (HJA.out _) (World.cell?_alloc_new _ _ _ _) rfl (l1.length + 1 + kk + 1) (by rw [HRL.out]) (by omega) (by unfold maxLen; omega) (by have := HWS.out; simp; omega) ?_; intro a5 c5 w5 hP5; have HP5 := hd hP5; clear hP5)
                  exact ⟨⟨kk + 1, a5, c5, by omega, by go_num, rfl, HX.out.step HP3.out.row HP5.out⟩, by simp [intOf]; omega⟩
                · have hki : ¬ ((kk : Nat) : Int) < 64 := by omega
                  obtain rfl : kk = 64 := by omega
                  have HP4 := HP3.out
                  have HX4 := HX.out
                  rw [HM.out] at HP4 HX4
                  have hat := HQ.out.at HPP.out HP4 HX4
                  have HAT := hd hat
                  have hc2 := hat.1.cell 2 _ rfl
                  have HHX := hd HX4
                  have HHP := hd HP4
                  clear HP4 HX4 hat hkk hk64 HJA HRL HX HP3
                  have hlitk : Hid (∀ j u, (pc [(Value.slice a3 (l1.length + 1) c3, Value.int .u8 (M : Int)), (.slice a4 (l1.length + 1 + 64) c4, .int .u8 (M : Int))])[j]? = some u → (wr.alloc (.cells #[.slice a3 (l1.length + 1) c3, .int .u8 (M : Int), .slice a4 (l1.length + 1 + 64) c4, .int .u8 (M : Int)] TK)).cell? ((⟨wr.heap.size, 0, none⟩ : Addr).add j) = some u) := by
                    intro j u hj
                    rw [add_at, Nat.zero_add]
                    exact (World.cell?_alloc_new ..).trans (by simpa [pc] using hj)
                  have HBS := HWS
                  go_wp2_with (at_builtin; refine wpList_append_jp (T := TK) (S := 25) Try.underlying25 info_kept rfl _ rfl _ _ rfl base _ ((al ++ ent m hs ++ prs).map kcell) [(.slice a3 (l1.length + 1) c3, .int .u8 (M : Int)), (.slice a4 (l1.length + 1 + 64) c4, .int .u8 (M : Int))] ⟨wr.heap.size, 0, none⟩ 2 2 rfl rfl (HAT.out.2.below ((Below.refl _ _).alloc (Nat.le_refl _) _)) (by intro p hp; simp at hp; rcases hp with rfl | rfl <;> exact ⟨rfl, rfl⟩) rfl (by decide) hlitk.out (NC + 2) (by rw [HLEN.out, ← HNC.out]) _ rfl (by omega) (by unfold maxLen; omega) (by have := HBS.out; simp; omega) ?_; intro g2 c2 w2 hj hg hw; have hbx2 := Blk.grown (HAT.out.1.alloc _) hg (fun e => (blk_bt HAT.out.1).ne (HAT.out.2.bt e.symm) (by decide) rfl); have hcX := hbx2.cell 2 _ rfl; have hfX := hbx2.frozen 2; have HJ := hd hj; have HG := hd hg; clear hj hg hw hbx2 hc2)
                  exact ⟨⟨t + 1, I + 1, _, _, by omega, HI.out, by go_num, by have h1 := HJ.out; rw [HM.out] at h1; exact HQ.out.step HAP.out hX HPP.out HHP.out HHX.out HG.out h1⟩, by simp [intOf]; omega⟩
            · obtain rfl : t = hs.length := by omega
              have hc1 := HQ.out.sk.box.cell 1 _ rfl
              have hf1 := HQ.out.sk.box.frozen 1
              have HFIN : Hid ((∃ VA' al', BK (wq.setCell ⟨X, 1, none⟩ (.slice none 0 0)) base X (m + hs.length) (.slice none 0 0) VA' [] al' ∧ al'.length = al.length + 3 * hs.length) ∧ Below base w (wq.setCell ⟨X, 1, none⟩ (.slice none 0 0))) := by
                have hne : ∀ b T, T ≠ TB → BT wq b T → (wq.setCell ⟨X, 1, none⟩ (.slice none 0 0)).heap[b]? = wq.heap[b]? := fun b T hT hb => heap_set _ _ _ _ _ (hb.ne (blk_bt HQ.out.sk.box) hT)
                refine ⟨⟨VC, al ++ ent m hs ++ prs, ⟨HQ.out.sk.box.set _, jp_nil _ _, HQ.out.sk.krow.same fun g e => hne g TK (by decide) (HQ.out.sk.krow.bt e), (fun p hp => by cases hp), (fun i j p q g _ hp => by simp at hp), fun p hp => (HQ.out.sk.all p hp).same fun g e => hne g E8 (by decide) ((HQ.out.sk.all p hp).bt e), (fun p hp q hq => by cases hq)⟩, by simp [ent_len, HQ.out.len]; omega⟩, HQ.out.below.setCell (p := ⟨X, 1, none⟩) hX _⟩
              clear HQ
              have hni : ¬ ((I : Int) < (al.length : Int) + (hs.length : Int)) := by omega
              clear hI
              go_wp2_with fail
              go_ret
              exact ⟨rfl, HFIN.out⟩
end Ow
end Go.Proofs.Ytipopjhmjdnnlaa
