/-
  THE REFERENCE OF LAYER 10: Of: a segment's hint file is the one that the program makes.
  hint.parts' function value.
-/
import Derived.Test.YtnjhbidialngmaaXhat
import Derived.Test.YtnjhbidialngmaaXhbe
import Derived.Test.YtnjhbidialngmaaXhbk
import Derived.Test.YtnjhbidialngmaaXhbn
import Derived.Test.YtnjhbidialngmaaXhbq
import Derived.Test.YtnjhbidialngmaaXhbr
import Derived.Test.YtnjhbidialngmaaXhbl
import Derived.Test.YtnjhbidialngmaaXhbi
import Derived.Test.YtnjhbidialngmaaXhbm
namespace Go.Proofs.Ytnjhbidialngmaa
open Go.RowKit Go.Shelf
namespace Vt
theorem r4_enc_hint (p : Ptr) (w : World) (hw : (hfr p).Wf) (h : rf (hfr p) = 0) : Calls Try.prog 10 #[.agg (fv (hfr p))] w fun e w' => ∃ u, e = .returned (.tuple #[u, .int .i64 0]) ∧ JB w' w.heap.size u (en (hfr p)) ∧ Below w.heap.size w w' := by
  refine r4_encode_ok (hfr p) w (Nat.le_trans (bd_len hw h).1 (by omega)) fun w => ?_
  obtain ⟨pl, pk, pa, pn, pkey⟩ := p
  have h' : rf (hfrQ ⟨pl, pk, pa, pn, pkey⟩) = 0 := h
  have hb : (pk = 1 ∨ pk = 2) ∧ 0 ≤ pa ∧ 1 ≤ pn := by
    rw [rf_hint] at h'
    simp only at h'
    by_cases c1 : pk ≠ 1 ∧ pk ≠ 2
    · rw [if_pos c1] at h'; omega
    · rw [if_neg c1] at h'
      by_cases c2 : pl = 0
      · rw [if_pos c2] at h'; omega
      · rw [if_neg c2] at h'
        by_cases c3 : ¬ (1 ≤ pkey.size ∧ pkey.size ≤ 64)
        · rw [if_pos c3] at h'; omega
        · rw [if_neg c3] at h'
          by_cases c4 : ¬ ((0 ≤ pa ∧ pa ≤ 4194304) ∧ 1 ≤ pn ∧ pn ≤ 4194304)
          · rw [if_pos c4] at h'; omega
          · omega
  obtain ⟨b1, b2, b3⟩ := hb
  obtain ⟨k, rfl⟩ : ∃ k : Nat, pk = (k : Int) := ⟨pk.toNat, by omega⟩
  obtain ⟨a, rfl⟩ : ∃ a : Nat, pa = (a : Int) := ⟨pa.toNat, by omega⟩
  obtain ⟨n, rfl⟩ : ∃ n : Nat, pn = (n : Int) := ⟨pn.toNat, by omega⟩
  exact r4_body_3 pl k a n pkey w hw.2.1 h'
theorem r4_enc_foot (e : Edg) (w : World) (hw : (ffr e).Wf) (h : rf (ffr e) = 0) : Calls Try.prog 10 #[.agg (fv (ffr e))] w fun e' w' => ∃ u, e' = .returned (.tuple #[u, .int .i64 0]) ∧ JB w' w.heap.size u (en (ffr e)) ∧ Below w.heap.size w w' := by
  refine r4_encode_ok (ffr e) w (Nat.le_trans (bd_len hw h).1 (by omega)) fun w => ?_
  obtain ⟨ec, eb, ef, es⟩ := e
  have h' : rf (ffrQ ⟨ec, eb, ef, es⟩) = 0 := h
  have hb : 0 ≤ ec ∧ 0 ≤ eb ∧ 0 ≤ ef := by
    rw [rf_foot] at h'
    simp only at h'
    by_cases c1 : (0 ≤ ec ∧ ec ≤ 4194304) ∧ (0 ≤ eb ∧ eb ≤ 4194304) ∧ (0 ≤ ef ∧ ef ≤ 4194304)
    · omega
    · rw [if_neg c1] at h'; omega
  obtain ⟨b1, b2, b3⟩ := hb
  obtain ⟨c, rfl⟩ : ∃ k : Nat, ec = (k : Int) := ⟨ec.toNat, by omega⟩
  obtain ⟨b, rfl⟩ : ∃ a : Nat, eb = (a : Int) := ⟨eb.toNat, by omega⟩
  obtain ⟨f, rfl⟩ : ∃ n : Nat, ef = (n : Int) := ⟨ef.toNat, by omega⟩
  exact r4_body_4 c b f es w hw.2.2 h'
set_option maxRecDepth 100000 in
set_option maxHeartbeats 4000000 in
theorem r10_of (v : Value) (l : List Nat) (w : World) (hI : IsB w v l) (hl : l.length ≤ 16777216) :
    Calls Try.prog 18 #[v] w fun e w' => ((May l ∧ ∃ u, e = .returned (.tuple #[u, .int .i64 0]) ∧ JB w' w.heap.size u (hof l)) ∨ (¬ May l ∧ e = .returned (.tuple #[.slice none 0 0, .int .i64 100]))) ∧ Below w.heap.size w w' := by
  obtain ⟨a, c, rfl⟩ := hI.shape
  have HI := hd hI
  have hll := locs_len hI.1 _ (Nat.le_refl _) 0
  have hmx : Try.prog.follows .mixedOrders = true := by kernel_rfl
  clear hI
  go_enter Try.func18, Try.ntmps18
  go_wp2_with fail
  refine Calls.mono (r10_run _ l _ HI.out hl) ?_
  rintro e w1 ⟨hr, b1⟩
  have hs1 := b1.size
  have HB1 := hd b1
  clear b1
  rcases hr with ⟨hcl, u, rfl, j1⟩ | ⟨hcl, rfl⟩
  case inr =>
    have HM := hd (show ¬ May l from fun q => hcl q.2.1)
    clear hcl
    go_wp2_with fail
    go_ret2
    exact ⟨.inr ⟨HM.out, rfl⟩, HB1.out⟩
  by_cases hbig : 4194304 < l.length
  · have HM := hd (show ¬ May l from fun q => by have := q.1; omega)
    have hbi : ((l.length : Nat) : Int) > 4194304 := by omega
    clear hcl j1
    go_wp2_with fail
    go_ret2
    exact ⟨.inr ⟨HM.out, rfl⟩, HB1.out⟩
  have hbi : ¬ ((l.length : Nat) : Int) > 4194304 := by omega
  have HCL := hd hcl
  obtain ⟨L, hL⟩ : ∃ L, L = locs 0 l := ⟨_, rfl⟩
  rw [← hL] at j1 hll
  obtain ⟨a1, c1, rfl, hc1⟩ := j1.shape
  rw [List.length_map] at hc1 j1 ⊢
  have HL := hd hL
  have J1 := hd j1
  clear j1 hL hcl
  go_wp2_with fail
  go_loopw [6, 7] (fun o i wr => ∃ k : Nat, k ≤ L.length ∧ i = .int .i64 (k : Int) ∧ (∀ x ∈ L.take k, isRec x.2.2 = true) ∧ JB wr w1.heap.size o (hbs (L.take k)) ∧ Below w1.heap.size w1 wr) (fun _ i _ => L.length - (intOf i).toNat)
  case atStart => exact ⟨0, by omega, rfl, by simp, ⟨byt_nil, own_nil _ _⟩, Below.refl _ _⟩
  case round =>
    obtain ⟨k, hk, rfl, hre, jo, hbr⟩ := hrel
    obtain ⟨wq, hwq⟩ : ∃ wq, wq = wr := ⟨_, rfl⟩
    subst hwq
    obtain ⟨oa, oc, rfl, hoc⟩ := jo.shape
    have HRE := hd hre
    have JO := hd jo
    have HBR := hd hbr
    have hsr := hbr.size
    clear hre jo hbr
    by_cases hlt : k < L.length
    · have hki : ((k : Nat) : Int) < (L.length : Int) := by omega
      have HLT : Hid (k + 1 ≤ L.length) := hlt
      have Jr := hd (J1.out.keepAll HBR.out)
      obtain ⟨⟨x1, x2, f⟩, hx⟩ : ∃ x, L[k]? = some x := ⟨_, List.getElem?_eq_getElem (by omega)⟩
      obtain ⟨fq, ⟨rl, rk, rkey, rval⟩, ⟨pl, pk, pa, pn, pkey⟩, ⟨ec, eb, ef, es⟩⟩ := f
      have hxm : (L.map lcv)[k]? = some (lcv (x1, x2, ⟨fq, ⟨rl, rk, rkey, rval⟩, ⟨pl, pk, pa, pn, pkey⟩, ⟨ec, eb, ef, es⟩⟩)) := by rw [List.getElem?_map, hx]; rfl
      obtain ⟨g, c1', hv, hg1, hg2⟩ := Jr.out.nn (by intro e; rw [e] at hxm; simp at hxm)
      injection hv with e1 e2 e3
      subst e1
      have hgl : g < wq.heap.size := Jr.out.blk_lt g rfl
      have r0 := Jr.out.at k _ 0 _ hxm rfl
      have r1 := Jr.out.at k _ 1 _ hxm rfl
      have r2 := Jr.out.at k _ 2 _ hxm rfl
      have r3 := Jr.out.at k _ 3 _ hxm rfl
      have r4 := Jr.out.at k _ 4 _ hxm rfl
      have r5 := Jr.out.at k _ 5 _ hxm rfl
      have r6 := Jr.out.at k _ 6 _ hxm rfl
      have r7 := Jr.out.at k _ 7 _ hxm rfl
      have r8 := Jr.out.at k _ 8 _ hxm rfl
      have r9 := Jr.out.at k _ 9 _ hxm rfl
      have r10 := Jr.out.at k _ 10 _ hxm rfl
      have r11 := Jr.out.at k _ 11 _ hxm rfl
      have r12 := Jr.out.at k _ 12 _ hxm rfl
      have r13 := Jr.out.at k _ 13 _ hxm rfl
      rw [Nat.add_zero] at r0
      have HX := hd hx
      have HXM := hd hxm
      have HIS := hd (fun w => r10_isRecord ⟨fq, ⟨rl, rk, rkey, rval⟩, ⟨pl, pk, pa, pn, pkey⟩, ⟨ec, eb, ef, es⟩⟩ w)
      simp only [fv] at HIS
      clear e2 e3 hg1 hg2 hxm hx
      go_wp2_with fail
      refine Calls.mono (HIS.out _) ?_
      rintro e w2 ⟨rfl, hb2⟩
      have HB2 := hd (HBR.out.trans (hb2.mono hsr))
      have hs2 := hb2.size
      have JO2 := hd (JO.out.keepAll hb2)
      have Jr2 := hd (Jr.out.keepAll hb2)
      clear hb2 HIS JO Jr HBR r0 r1 r2 r3 r4 r5 r6 r7 r8 r9 r10 r11 r12 r13
      cases hir : isRec ⟨fq, ⟨rl, rk, rkey, rval⟩, ⟨pl, pk, pa, pn, pkey⟩, ⟨ec, eb, ef, es⟩⟩
      · have HM := hd (show ¬ May l from fun q => by
          have h1 := q.2.2 _ (by rw [← HL.out]; exact List.mem_of_getElem? HX.out)
          simp only [hir] at h1
          cases h1)
        clear hir
        go_wp2_with fail
        go_ret2
        exact ⟨.inr ⟨HM.out, rfl⟩, HB1.out.trans (HB2.out.mono hs1)⟩
      · have HIR := hd hir
        have r1 := Jr2.out.at k _ 1 _ HXM.out rfl
        have r2 := Jr2.out.at k _ 2 _ HXM.out rfl
        have r3 := Jr2.out.at k _ 3 _ HXM.out rfl
        have r4 := Jr2.out.at k _ 4 _ HXM.out rfl
        have r14 := Jr2.out.at k _ 14 _ HXM.out rfl
        have r15 := Jr2.out.at k _ 15 _ HXM.out rfl
        have hok := hfr_ok HI.out.1 (by omega) (x := (x1, x2, ⟨fq, ⟨rl, rk, rkey, rval⟩, ⟨pl, pk, pa, pn, pkey⟩, ⟨ec, eb, ef, es⟩⟩)) (by rw [← HL.out]; exact List.mem_of_getElem? HX.out) hir
        have HES := hd (en_small hok.2 hok.1)
        have hen := fun w => r4_enc_hint _ w hok.2 hok.1
        have HTK : Hid (hbs (L.take (k + 1)) = hbs (L.take k) ++ en (hfr (pto (x1, x2, ⟨fq, ⟨rl, rk, rkey, rval⟩, ⟨pl, pk, pa, pn, pkey⟩, ⟨ec, eb, ef, es⟩⟩)))) := by
          show _ = _
          rw [List.take_add_one, HX.out]
          exact hbs_snoc _ _
        have HRK : Hid (∀ x ∈ L.take (k + 1), isRec x.2.2 = true) := by
          show ∀ x ∈ L.take (k + 1), isRec x.2.2 = true
          intro x hx
          rw [List.take_add_one, HX.out] at hx
          rcases List.mem_append.1 hx with q | q
          · exact HRE.out x q
          · rw [List.mem_singleton.1 q]; exact HIR.out
        have HBND : Hid ((hbs (L.take (k + 1))).length ≤ 100000000000) := by
          show _ ≤ _
          have h1 := hbs_len (L := L.take (k + 1)) (fun y hy => hfr_ok HI.out.1 (by omega) (by rw [← HL.out]; exact List.mem_of_mem_take hy) (HRK.out y hy))
          rw [List.length_take] at h1
          omega
        obtain ⟨EB, hEB⟩ : ∃ EB, EB = en (hfr (pto (x1, x2, ⟨fq, ⟨rl, rk, rkey, rval⟩, ⟨pl, pk, pa, pn, pkey⟩, ⟨ec, eb, ef, es⟩⟩))) := ⟨_, rfl⟩
        rw [← hEB] at hen HTK HES
        have HEN : Hid (∀ w, Calls Try.prog 10 #[.agg #[.int .i64 3, .int .u64 0, .int .i64 0, .string ⟨#[]⟩, .string ⟨#[]⟩, .int .u64 (rl : Int), .int .i64 rk, .int .i64 ((x1 : Nat) : Int), .int .i64 ((x2 : Nat) : Int), .string rkey, .int .i64 0, .int .i64 0, .int .i64 0, .int .u32 0]] w fun e w' => ∃ u, e = .returned (.tuple #[u, .int .i64 0]) ∧ JB w' w.heap.size u EB ∧ Below w.heap.size w w') := hen
        clear hir hok hen hEB
        have hgl2 : g < w2.heap.size := by omega
        have hg3 : ¬ g = w2.heap.size := by omega
        have hg4 : ¬ w2.heap.size = g := by omega
        go_wp2_with fail
        have hR0 := Blk.new w2 25 [.int .u64 (rl : Int), .int .i64 rk, .string rkey, .string rval]
        obtain ⟨W0, hW0⟩ : ∃ W0, W0 = w2.alloc (.cells #[.int .u64 (rl : Int), .int .i64 rk, .string rkey, .string rval] 25) := ⟨_, rfl⟩
        have hb0 : Below w2.heap.size w2 W0 := by rw [hW0]; exact (Below.refl _ _).alloc (Nat.le_refl _) _
        change Blk (w2.alloc (.cells #[.int .u64 (rl : Int), .int .i64 rk, .string rkey, .string rval] 25)) _ _ _ at hR0
        rw [← hW0] at hR0
        have HR0 := hd hR0
        have Jr0 := hd (Jr2.out.keepAll hb0)
        have JO0 := hd (JO2.out.keepAll hb0)
        have HB0 := hd (HB2.out.trans (hb0.mono (Nat.le_trans hsr hs2)))
        have hs0 := hb0.size
        have hs9 : w1.heap.size ≤ W0.heap.size := by omega
        obtain ⟨z, hz⟩ : ∃ z, z = w2.heap.size := ⟨_, rfl⟩
        rw [← hz] at HR0
        rw [← hW0, ← hz]
        clear hb0 hR0 hW0 hg3 hg4 hz r1 r2 r3 r4 r14 r15 Jr2 JO2 HB2
        --REGION r12
        refine region_pivot (fun v9 i => match i with
          | 0 => .pointer (some ⟨z, 0, none⟩)
          | 1 => .int .u64 (rl : Int)
          | 2 => .pointer (some ⟨z, 1, none⟩)
          | 3 => .int .i64 rk
          | 4 => Value.slice (some { block := g, off := 0 }) L.length c1
          | 5 => Value.int IntKind.i64 ((k : Nat) : Int)
          | 6 => .pointer (some ⟨g, k * 16, none⟩)
          | 7 => .pointer (some ⟨g, k * 16 + 14, none⟩)
          | 8 => .int .i64 ((x1 : Nat) : Int)
          | 9 => Value.slice (some { block := g, off := 0 }) L.length c1
          | 10 => Value.int IntKind.i64 ((k : Nat) : Int)
          | 11 => .pointer (some ⟨g, k * 16, none⟩)
          | 12 => .pointer (some ⟨g, k * 16 + 15, none⟩)
          | 13 => .int .i64 ((x2 : Nat) : Int)
          | 14 => .pointer (some ⟨z, 2, none⟩)
          | 15 => .string rkey
          | 16 => .agg #[.int .u64 (rl : Int), .int .i64 rk, .int .i64 ((x1 : Nat) : Int), .int .i64 ((x2 : Nat) : Int), .string rkey]
          | 17 => .agg #[.int .i64 3, .int .u64 0, .int .i64 0, .string ⟨#[]⟩, .string ⟨#[]⟩, .int .u64 (rl : Int), .int .i64 rk, .int .i64 ((x1 : Nat) : Int), .int .i64 ((x2 : Nat) : Int), .string rkey, .int .i64 0, .int .i64 0, .int .i64 0, .int .u32 0]
          | 18 => v9
          | 19 => v9
          | 20 => tupAt v9 0
          | 21 => tupAt v9 1
          | 22 => tupAt v9 0
          | 23 => tupAt v9 1
          | _ => undef) 18 (fun q => Below W0.heap.size W0 q) (fun v9 w9 => ∃ x, v9 = .tuple #[x, .int .i64 0] ∧ (JB w9 W0.heap.size x EB ∧ Below W0.heap.size W0 w9)) hmx (by kernel_rfl) (by kernel_rfl) (by kernel_rfl) (by kernel_rfl) (by decide) (fun _ => rfl) ?_ ⟨rfl, rfl, rfl, Nat.le_refl _, fun _ _ => rfl⟩ ?_ ?_ ?_ ?_
        · intro v9 i hi h
          match i, hi, h with
          | 0, _, h => exact rfl
          | 1, _, h => exact rfl
          | 2, _, h => exact rfl
          | 3, _, h => exact rfl
          | 4, _, h => exact rfl
          | 5, _, h => exact rfl
          | 6, _, h => exact rfl
          | 7, _, h => exact rfl
          | 8, _, h => exact rfl
          | 9, _, h => exact rfl
          | 10, _, h => exact rfl
          | 11, _, h => exact rfl
          | 12, _, h => exact rfl
          | 13, _, h => exact rfl
          | 14, _, h => exact rfl
          | 15, _, h => exact rfl
          | 16, _, h => exact rfl
          | 17, _, h => exact rfl
          | 18, _, h => exact Bool.noConfusion (h.symm.trans (show _ = false by kernel_rfl))
          | 19, _, h => exact Bool.noConfusion (h.symm.trans (show _ = false by kernel_rfl))
          | 20, _, h => exact Bool.noConfusion (h.symm.trans (show _ = false by kernel_rfl))
          | 21, _, h => exact Bool.noConfusion (h.symm.trans (show _ = false by kernel_rfl))
          | 22, _, h => exact Bool.noConfusion (h.symm.trans (show _ = false by kernel_rfl))
          | 23, _, h => exact Bool.noConfusion (h.symm.trans (show _ = false by kernel_rfl))
          | k + 24, hi, _ => exact absurd hi (by simp)
        · intro i o ho h a w9 hW9 hout haf
          have ee4 := getq (show a.tmps.getD 4 undef = Value.slice (some { block := g, off := 0 }) L.length c1 from hout 4 (notDst_spec (by kernel_rfl)))
          have ee7 := getq (show a.tmps.getD 7 undef = Value.int IntKind.i64 ((k : Nat) : Int) from hout 7 (notDst_spec (by kernel_rfl)))
          have ee9 := getq (show a.tmps.getD 9 undef = Value.pointer (some { block := z, off := 0 }) from hout 9 (notDst_spec (by kernel_rfl)))
          clear hout
          match i, ho, h, haf with
          | 0, ho, _, haf =>
            obtain rfl := Option.some.inj ho
            refine step_q (w' := w9) hW9 fun K hK => ?_
            simp only [List.getElem_toArray, List.getElem_cons_zero] at hK ⊢
            clear haf ho
            go_simp
            exact hK
          | 1, ho, _, haf =>
            obtain rfl := Option.some.inj ho
            have f0 := getq (show a.tmps.getD 48 undef = .pointer (some ⟨z, 0, none⟩) from haf ⟨0, .data⟩ (by simp) rfl 48 rfl)
            refine step_q (w' := w9) hW9 fun K hK => ?_
            simp only [List.getElem_toArray, List.getElem_cons_succ, List.getElem_cons_zero] at hK ⊢
            clear haf ho
            have cc := (HR0.out.keep hW9).cell 0 _ rfl
            go_simp
            exact hK
          | 2, ho, _, haf =>
            obtain rfl := Option.some.inj ho
            refine step_q (w' := w9) hW9 fun K hK => ?_
            simp only [List.getElem_toArray, List.getElem_cons_succ, List.getElem_cons_zero] at hK ⊢
            clear haf ho
            go_simp
            exact hK
          | 3, ho, _, haf =>
            obtain rfl := Option.some.inj ho
            have f2 := getq (show a.tmps.getD 50 undef = .pointer (some ⟨z, 1, none⟩) from haf ⟨2, .data⟩ (by simp) rfl 50 rfl)
            refine step_q (w' := w9) hW9 fun K hK => ?_
            simp only [List.getElem_toArray, List.getElem_cons_succ, List.getElem_cons_zero] at hK ⊢
            clear haf ho
            have cc := (HR0.out.keep hW9).cell 1 _ rfl
            go_simp
            exact hK
          | 4, ho, _, haf =>
            obtain rfl := Option.some.inj ho
            refine step_q (w' := w9) hW9 fun K hK => ?_
            simp only [List.getElem_toArray, List.getElem_cons_succ, List.getElem_cons_zero] at hK ⊢
            clear haf ho
            go_simp
            exact hK
          | 5, ho, _, haf =>
            obtain rfl := Option.some.inj ho
            refine step_q (w' := w9) hW9 fun K hK => ?_
            simp only [List.getElem_toArray, List.getElem_cons_succ, List.getElem_cons_zero] at hK ⊢
            clear haf ho
            go_simp
            exact hK
          | 6, ho, _, haf =>
            obtain rfl := Option.some.inj ho
            have f4 := getq (show a.tmps.getD 52 undef = Value.slice (some { block := g, off := 0 }) L.length c1 from haf ⟨4, .data⟩ (by simp) rfl 52 rfl)
            have f5 := getq (show a.tmps.getD 53 undef = Value.int IntKind.i64 ((k : Nat) : Int) from haf ⟨5, .data⟩ (by simp) rfl 53 rfl)
            refine step_q (w' := w9) hW9 fun K hK => ?_
            simp only [List.getElem_toArray, List.getElem_cons_succ, List.getElem_cons_zero] at hK ⊢
            clear haf ho
            go_simp
            exact hK
          | 7, ho, _, haf =>
            obtain rfl := Option.some.inj ho
            have f6 := getq (show a.tmps.getD 54 undef = .pointer (some ⟨g, k * 16, none⟩) from haf ⟨6, .data⟩ (by simp) rfl 54 rfl)
            refine step_q (w' := w9) hW9 fun K hK => ?_
            simp only [List.getElem_toArray, List.getElem_cons_succ, List.getElem_cons_zero] at hK ⊢
            clear haf ho
            go_simp
            exact hK
          | 8, ho, _, haf =>
            obtain rfl := Option.some.inj ho
            have f7 := getq (show a.tmps.getD 55 undef = .pointer (some ⟨g, k * 16 + 14, none⟩) from haf ⟨7, .data⟩ (by simp) rfl 55 rfl)
            refine step_q (w' := w9) hW9 fun K hK => ?_
            simp only [List.getElem_toArray, List.getElem_cons_succ, List.getElem_cons_zero] at hK ⊢
            clear haf ho
            have cc := (Jr0.out.keepAll hW9).at k _ 14 _ HXM.out rfl
            go_simp
            exact hK
          | 9, ho, _, haf =>
            obtain rfl := Option.some.inj ho
            refine step_q (w' := w9) hW9 fun K hK => ?_
            simp only [List.getElem_toArray, List.getElem_cons_succ, List.getElem_cons_zero] at hK ⊢
            clear haf ho
            go_simp
            exact hK
          | 10, ho, _, haf =>
            obtain rfl := Option.some.inj ho
            refine step_q (w' := w9) hW9 fun K hK => ?_
            simp only [List.getElem_toArray, List.getElem_cons_succ, List.getElem_cons_zero] at hK ⊢
            clear haf ho
            go_simp
            exact hK
          | 11, ho, _, haf =>
            obtain rfl := Option.some.inj ho
            have f9 := getq (show a.tmps.getD 57 undef = Value.slice (some { block := g, off := 0 }) L.length c1 from haf ⟨9, .data⟩ (by simp) rfl 57 rfl)
            have f10 := getq (show a.tmps.getD 58 undef = Value.int IntKind.i64 ((k : Nat) : Int) from haf ⟨10, .data⟩ (by simp) rfl 58 rfl)
            refine step_q (w' := w9) hW9 fun K hK => ?_
            simp only [List.getElem_toArray, List.getElem_cons_succ, List.getElem_cons_zero] at hK ⊢
            clear haf ho
            go_simp
            exact hK
          | 12, ho, _, haf =>
            obtain rfl := Option.some.inj ho
            have f11 := getq (show a.tmps.getD 59 undef = .pointer (some ⟨g, k * 16, none⟩) from haf ⟨11, .data⟩ (by simp) rfl 59 rfl)
            refine step_q (w' := w9) hW9 fun K hK => ?_
            simp only [List.getElem_toArray, List.getElem_cons_succ, List.getElem_cons_zero] at hK ⊢
            clear haf ho
            go_simp
            exact hK
          | 13, ho, _, haf =>
            obtain rfl := Option.some.inj ho
            have f12 := getq (show a.tmps.getD 60 undef = .pointer (some ⟨g, k * 16 + 15, none⟩) from haf ⟨12, .data⟩ (by simp) rfl 60 rfl)
            refine step_q (w' := w9) hW9 fun K hK => ?_
            simp only [List.getElem_toArray, List.getElem_cons_succ, List.getElem_cons_zero] at hK ⊢
            clear haf ho
            have cc := (Jr0.out.keepAll hW9).at k _ 15 _ HXM.out rfl
            go_simp
            exact hK
          | 14, ho, _, haf =>
            obtain rfl := Option.some.inj ho
            refine step_q (w' := w9) hW9 fun K hK => ?_
            simp only [List.getElem_toArray, List.getElem_cons_succ, List.getElem_cons_zero] at hK ⊢
            clear haf ho
            go_simp
            exact hK
          | 15, ho, _, haf =>
            obtain rfl := Option.some.inj ho
            have f14 := getq (show a.tmps.getD 62 undef = .pointer (some ⟨z, 2, none⟩) from haf ⟨14, .data⟩ (by simp) rfl 62 rfl)
            refine step_q (w' := w9) hW9 fun K hK => ?_
            simp only [List.getElem_toArray, List.getElem_cons_succ, List.getElem_cons_zero] at hK ⊢
            clear haf ho
            have cc := (HR0.out.keep hW9).cell 2 _ rfl
            go_simp
            exact hK
          | 16, ho, _, haf =>
            obtain rfl := Option.some.inj ho
            have f1 := getq (show a.tmps.getD 49 undef = .int .u64 (rl : Int) from haf ⟨1, .data⟩ (by simp) rfl 49 rfl)
            have f3 := getq (show a.tmps.getD 51 undef = .int .i64 rk from haf ⟨3, .data⟩ (by simp) rfl 51 rfl)
            have f8 := getq (show a.tmps.getD 56 undef = .int .i64 ((x1 : Nat) : Int) from haf ⟨8, .data⟩ (by simp) rfl 56 rfl)
            have f13 := getq (show a.tmps.getD 61 undef = .int .i64 ((x2 : Nat) : Int) from haf ⟨13, .data⟩ (by simp) rfl 61 rfl)
            have f15 := getq (show a.tmps.getD 63 undef = .string rkey from haf ⟨15, .data⟩ (by simp) rfl 63 rfl)
            refine step_q (w' := w9) hW9 fun K hK => ?_
            simp only [List.getElem_toArray, List.getElem_cons_succ, List.getElem_cons_zero] at hK ⊢
            clear haf ho
            go_simp
            exact hK
          | 17, ho, _, haf =>
            obtain rfl := Option.some.inj ho
            have f16 := getq (show a.tmps.getD 64 undef = .agg #[.int .u64 (rl : Int), .int .i64 rk, .int .i64 ((x1 : Nat) : Int), .int .i64 ((x2 : Nat) : Int), .string rkey] from haf ⟨16, .data⟩ (by simp) rfl 64 rfl)
            refine step_q (w' := w9) hW9 fun K hK => ?_
            simp only [List.getElem_toArray, List.getElem_cons_succ, List.getElem_cons_zero] at hK ⊢
            clear haf ho
            go_simp
            exact hK
          | 18, _, h, _ => exact Bool.noConfusion (h.symm.trans (show _ = false by kernel_rfl))
          | 19, _, h, _ => exact Bool.noConfusion (h.symm.trans (show _ = false by kernel_rfl))
          | 20, _, h, _ => exact Bool.noConfusion (h.symm.trans (show _ = false by kernel_rfl))
          | 21, _, h, _ => exact Bool.noConfusion (h.symm.trans (show _ = false by kernel_rfl))
          | 22, _, h, _ => exact Bool.noConfusion (h.symm.trans (show _ = false by kernel_rfl))
          | 23, _, h, _ => exact Bool.noConfusion (h.symm.trans (show _ = false by kernel_rfl))
          | n + 24, ho, _, _ => simp at ho
        · intro o ho a w9 hW9 hout haf
          have ee4 := getq (show a.tmps.getD 4 undef = Value.slice (some { block := g, off := 0 }) L.length c1 from hout 4 (notDst_spec (by kernel_rfl)))
          have ee7 := getq (show a.tmps.getD 7 undef = Value.int IntKind.i64 ((k : Nat) : Int) from hout 7 (notDst_spec (by kernel_rfl)))
          have ee9 := getq (show a.tmps.getD 9 undef = Value.pointer (some { block := z, off := 0 }) from hout 9 (notDst_spec (by kernel_rfl)))
          obtain rfl := Option.some.inj ho
          have f17 := getq (show a.tmps.getD 65 undef = .agg #[.int .i64 3, .int .u64 0, .int .i64 0, .string ⟨#[]⟩, .string ⟨#[]⟩, .int .u64 (rl : Int), .int .i64 rk, .int .i64 ((x1 : Nat) : Int), .int .i64 ((x2 : Nat) : Int), .string rkey, .int .i64 0, .int .i64 0, .int .i64 0, .int .u32 0] from haf ⟨17, .data⟩ (by simp) rfl 65 rfl)
          clear haf ho hout
          simp only [List.getElem_toArray, List.getElem_cons_succ, List.getElem_cons_zero]
          go_simp
          refine Calls.mono (HEN.out w9) ?_
          rintro e8 w8 ⟨u8, rfl, hj8, hb8⟩
          exact ⟨_, rfl, u8, rfl, hj8.base hW9.size, hW9.trans (hb8.mono hW9.size)⟩
        · intro i o ho hne h v9 a w9 hR9 hout haf
          have ee4 := getq (show a.tmps.getD 4 undef = Value.slice (some { block := g, off := 0 }) L.length c1 from hout 4 (notDst_spec (by kernel_rfl)))
          have ee7 := getq (show a.tmps.getD 7 undef = Value.int IntKind.i64 ((k : Nat) : Int) from hout 7 (notDst_spec (by kernel_rfl)))
          have ee9 := getq (show a.tmps.getD 9 undef = Value.pointer (some { block := z, off := 0 }) from hout 9 (notDst_spec (by kernel_rfl)))
          clear hout
          obtain ⟨x9, hv9, hRR⟩ := hR9
          match i, ho, hne, h, haf with
          | 0, _, _, h, _ => exact Bool.noConfusion (h.symm.trans (show _ = true by kernel_rfl))
          | 1, _, _, h, _ => exact Bool.noConfusion (h.symm.trans (show _ = true by kernel_rfl))
          | 2, _, _, h, _ => exact Bool.noConfusion (h.symm.trans (show _ = true by kernel_rfl))
          | 3, _, _, h, _ => exact Bool.noConfusion (h.symm.trans (show _ = true by kernel_rfl))
          | 4, _, _, h, _ => exact Bool.noConfusion (h.symm.trans (show _ = true by kernel_rfl))
          | 5, _, _, h, _ => exact Bool.noConfusion (h.symm.trans (show _ = true by kernel_rfl))
          | 6, _, _, h, _ => exact Bool.noConfusion (h.symm.trans (show _ = true by kernel_rfl))
          | 7, _, _, h, _ => exact Bool.noConfusion (h.symm.trans (show _ = true by kernel_rfl))
          | 8, _, _, h, _ => exact Bool.noConfusion (h.symm.trans (show _ = true by kernel_rfl))
          | 9, _, _, h, _ => exact Bool.noConfusion (h.symm.trans (show _ = true by kernel_rfl))
          | 10, _, _, h, _ => exact Bool.noConfusion (h.symm.trans (show _ = true by kernel_rfl))
          | 11, _, _, h, _ => exact Bool.noConfusion (h.symm.trans (show _ = true by kernel_rfl))
          | 12, _, _, h, _ => exact Bool.noConfusion (h.symm.trans (show _ = true by kernel_rfl))
          | 13, _, _, h, _ => exact Bool.noConfusion (h.symm.trans (show _ = true by kernel_rfl))
          | 14, _, _, h, _ => exact Bool.noConfusion (h.symm.trans (show _ = true by kernel_rfl))
          | 15, _, _, h, _ => exact Bool.noConfusion (h.symm.trans (show _ = true by kernel_rfl))
          | 16, _, _, h, _ => exact Bool.noConfusion (h.symm.trans (show _ = true by kernel_rfl))
          | 17, _, _, h, _ => exact Bool.noConfusion (h.symm.trans (show _ = true by kernel_rfl))
          | 18, _, hne, _, _ => exact absurd rfl hne
          | 19, ho, _, _, haf =>
            obtain rfl := Option.some.inj ho
            have f18 := getq (show a.tmps.getD 66 undef = v9 from haf ⟨18, .data⟩ (by simp) rfl 66 rfl)
            refine step_c (w' := w9) rfl fun K hK => ?_
            simp only [List.getElem_toArray, List.getElem_cons_succ, List.getElem_cons_zero] at hK ⊢
            clear haf ho
            subst hv9
            go_simp
            exact hK
          | 20, ho, _, _, haf =>
            obtain rfl := Option.some.inj ho
            have f19 := getq (show a.tmps.getD 47 undef = v9 from haf ⟨19, .data⟩ (by simp) rfl 47 rfl)
            refine step_c (w' := w9) rfl fun K hK => ?_
            simp only [List.getElem_toArray, List.getElem_cons_succ, List.getElem_cons_zero] at hK ⊢
            clear haf ho
            subst hv9
            go_simp
            exact hK
          | 21, ho, _, _, haf =>
            obtain rfl := Option.some.inj ho
            have f19 := getq (show a.tmps.getD 47 undef = v9 from haf ⟨19, .data⟩ (by simp) rfl 47 rfl)
            refine step_c (w' := w9) rfl fun K hK => ?_
            simp only [List.getElem_toArray, List.getElem_cons_succ, List.getElem_cons_zero] at hK ⊢
            clear haf ho
            subst hv9
            go_simp
            exact hK
          | 22, ho, _, _, haf =>
            obtain rfl := Option.some.inj ho
            have f20 := getq (show a.tmps.getD 67 undef = tupAt v9 0 from haf ⟨20, .data⟩ (by simp) rfl 67 rfl)
            refine step_c (w' := w9) rfl fun K hK => ?_
            simp only [List.getElem_toArray, List.getElem_cons_succ, List.getElem_cons_zero] at hK ⊢
            clear haf ho
            subst hv9
            go_simp
            exact hK
          | 23, ho, _, _, haf =>
            obtain rfl := Option.some.inj ho
            have f21 := getq (show a.tmps.getD 68 undef = tupAt v9 1 from haf ⟨21, .data⟩ (by simp) rfl 68 rfl)
            refine step_c (w' := w9) rfl fun K hK => ?_
            simp only [List.getElem_toArray, List.getElem_cons_succ, List.getElem_cons_zero] at hK ⊢
            clear haf ho
            subst hv9
            go_simp
            exact hK
          | n + 24, ho, _, _, _ => simp at ho
        · intro v9 aa w9 hR9 hdf hsz hout hval
          have hat : aa.tmps = #[Value.slice a l.length c, undef, u2, u3, Value.slice (some { block := g, off := 0 }) L.length c1, Value.bool true, Value.slice oa (hbs (List.take k L)).length oc, Value.int IntKind.i64 ((k : Nat) : Int), Value.bool true, Value.pointer (some { block := z, off := 0 }), tupAt v9 0, tupAt v9 1, undef, undef, undef, Value.tuple #[Value.slice (some { block := g, off := 0 }) L.length c1, Value.bool true], Value.slice a l.length c, Value.tuple #[Value.slice (some { block := g, off := 0 }) L.length c1, Value.bool true], Value.slice (some { block := g, off := 0 }) L.length c1, Value.bool true, Value.bool true, Value.bool false, Value.bool false, Value.slice a l.length c, Value.int IntKind.i64 ((l.length : Nat) : Int), Value.bool (decide (4194304 < ((l.length : Nat) : Int))), Value.bool (decide (4194304 < ((l.length : Nat) : Int))), Value.int IntKind.i64 ((k : Nat) : Int), Value.slice (some { block := g, off := 0 }) L.length c1, Value.int IntKind.i64 ((L.length : Nat) : Int), Value.bool true, u31, u32, Value.slice (some { block := g, off := 0 }) L.length c1, Value.int IntKind.i64 ((k : Nat) : Int), Value.pointer (some { block := g, off := k * 16 }), Value.pointer (some { block := g, off := k * 16 }), Value.agg #[Value.int IntKind.i64 fq, Value.int IntKind.u64 ((rl : Nat) : Int), Value.int IntKind.i64 rk, Value.string rkey, Value.string rval, Value.int IntKind.u64 ((pl : Nat) : Int), Value.int IntKind.i64 pk, Value.int IntKind.i64 pa, Value.int IntKind.i64 pn, Value.string pkey, Value.int IntKind.i64 ec, Value.int IntKind.i64 eb, Value.int IntKind.i64 ef, Value.int IntKind.u32 ((es : Nat) : Int)], Value.bool true, Value.bool true, Value.bool false, Value.slice (some { block := g, off := 0 }) L.length c1, Value.int IntKind.i64 ((k : Nat) : Int), Value.pointer (some { block := g, off := k * 16 }), Value.pointer (some { block := g, off := k * 16 }), Value.pointer (some { block := g, off := k * 16 + 1 }), Value.agg #[Value.int IntKind.u64 ((rl : Nat) : Int), Value.int IntKind.i64 rk, Value.string rkey, Value.string rval], v9, .pointer (some ⟨z, 0, none⟩), .int .u64 (rl : Int), .pointer (some ⟨z, 1, none⟩), .int .i64 rk, Value.slice (some { block := g, off := 0 }) L.length c1, Value.int IntKind.i64 ((k : Nat) : Int), .pointer (some ⟨g, k * 16, none⟩), .pointer (some ⟨g, k * 16 + 14, none⟩), .int .i64 ((x1 : Nat) : Int), Value.slice (some { block := g, off := 0 }) L.length c1, Value.int IntKind.i64 ((k : Nat) : Int), .pointer (some ⟨g, k * 16, none⟩), .pointer (some ⟨g, k * 16 + 15, none⟩), .int .i64 ((x2 : Nat) : Int), .pointer (some ⟨z, 2, none⟩), .string rkey, .agg #[.int .u64 (rl : Int), .int .i64 rk, .int .i64 ((x1 : Nat) : Int), .int .i64 ((x2 : Nat) : Int), .string rkey], .agg #[.int .i64 3, .int .u64 0, .int .i64 0, .string ⟨#[]⟩, .string ⟨#[]⟩, .int .u64 (rl : Int), .int .i64 rk, .int .i64 ((x1 : Nat) : Int), .int .i64 ((x2 : Nat) : Int), .string rkey, .int .i64 0, .int .i64 0, .int .i64 0, .int .u32 0], v9, tupAt v9 0, tupAt v9 1, u69, u70, u71, undef, undef, undef, undef, undef, undef, undef, undef, undef, undef, undef, undef, undef, undef, undef, undef, undef, undef, undef] := by
            refine arr_one (hsz.trans rfl) fun kk hkk => ?_
            match kk, hkk with
            | 0, _ => exact hout 0 (notDst_spec (by kernel_rfl))
            | 1, _ => exact hout 1 (notDst_spec (by kernel_rfl))
            | 2, _ => exact hout 2 (notDst_spec (by kernel_rfl))
            | 3, _ => exact hout 3 (notDst_spec (by kernel_rfl))
            | 4, _ => exact hout 4 (notDst_spec (by kernel_rfl))
            | 5, _ => exact hout 5 (notDst_spec (by kernel_rfl))
            | 6, _ => exact hout 6 (notDst_spec (by kernel_rfl))
            | 7, _ => exact hout 7 (notDst_spec (by kernel_rfl))
            | 8, _ => exact hout 8 (notDst_spec (by kernel_rfl))
            | 9, _ => exact hout 9 (notDst_spec (by kernel_rfl))
            | 10, _ => exact hval 22 10 (by decide) rfl
            | 11, _ => exact hval 23 11 (by decide) rfl
            | 12, _ => exact hout 12 (notDst_spec (by kernel_rfl))
            | 13, _ => exact hout 13 (notDst_spec (by kernel_rfl))
            | 14, _ => exact hout 14 (notDst_spec (by kernel_rfl))
            | 15, _ => exact hout 15 (notDst_spec (by kernel_rfl))
            | 16, _ => exact hout 16 (notDst_spec (by kernel_rfl))
            | 17, _ => exact hout 17 (notDst_spec (by kernel_rfl))
            | 18, _ => exact hout 18 (notDst_spec (by kernel_rfl))
            | 19, _ => exact hout 19 (notDst_spec (by kernel_rfl))
            | 20, _ => exact hout 20 (notDst_spec (by kernel_rfl))
            | 21, _ => exact hout 21 (notDst_spec (by kernel_rfl))
            | 22, _ => exact hout 22 (notDst_spec (by kernel_rfl))
            | 23, _ => exact hout 23 (notDst_spec (by kernel_rfl))
            | 24, _ => exact hout 24 (notDst_spec (by kernel_rfl))
            | 25, _ => exact hout 25 (notDst_spec (by kernel_rfl))
            | 26, _ => exact hout 26 (notDst_spec (by kernel_rfl))
            | 27, _ => exact hout 27 (notDst_spec (by kernel_rfl))
            | 28, _ => exact hout 28 (notDst_spec (by kernel_rfl))
            | 29, _ => exact hout 29 (notDst_spec (by kernel_rfl))
            | 30, _ => exact hout 30 (notDst_spec (by kernel_rfl))
            | 31, _ => exact hout 31 (notDst_spec (by kernel_rfl))
            | 32, _ => exact hout 32 (notDst_spec (by kernel_rfl))
            | 33, _ => exact hout 33 (notDst_spec (by kernel_rfl))
            | 34, _ => exact hout 34 (notDst_spec (by kernel_rfl))
            | 35, _ => exact hout 35 (notDst_spec (by kernel_rfl))
            | 36, _ => exact hout 36 (notDst_spec (by kernel_rfl))
            | 37, _ => exact hout 37 (notDst_spec (by kernel_rfl))
            | 38, _ => exact hout 38 (notDst_spec (by kernel_rfl))
            | 39, _ => exact hout 39 (notDst_spec (by kernel_rfl))
            | 40, _ => exact hout 40 (notDst_spec (by kernel_rfl))
            | 41, _ => exact hout 41 (notDst_spec (by kernel_rfl))
            | 42, _ => exact hout 42 (notDst_spec (by kernel_rfl))
            | 43, _ => exact hout 43 (notDst_spec (by kernel_rfl))
            | 44, _ => exact hout 44 (notDst_spec (by kernel_rfl))
            | 45, _ => exact hout 45 (notDst_spec (by kernel_rfl))
            | 46, _ => exact hout 46 (notDst_spec (by kernel_rfl))
            | 47, _ => exact hval 19 47 (by decide) rfl
            | 48, _ => exact hval 0 48 (by decide) rfl
            | 49, _ => exact hval 1 49 (by decide) rfl
            | 50, _ => exact hval 2 50 (by decide) rfl
            | 51, _ => exact hval 3 51 (by decide) rfl
            | 52, _ => exact hval 4 52 (by decide) rfl
            | 53, _ => exact hval 5 53 (by decide) rfl
            | 54, _ => exact hval 6 54 (by decide) rfl
            | 55, _ => exact hval 7 55 (by decide) rfl
            | 56, _ => exact hval 8 56 (by decide) rfl
            | 57, _ => exact hval 9 57 (by decide) rfl
            | 58, _ => exact hval 10 58 (by decide) rfl
            | 59, _ => exact hval 11 59 (by decide) rfl
            | 60, _ => exact hval 12 60 (by decide) rfl
            | 61, _ => exact hval 13 61 (by decide) rfl
            | 62, _ => exact hval 14 62 (by decide) rfl
            | 63, _ => exact hval 15 63 (by decide) rfl
            | 64, _ => exact hval 16 64 (by decide) rfl
            | 65, _ => exact hval 17 65 (by decide) rfl
            | 66, _ => exact hval 18 66 (by decide) rfl
            | 67, _ => exact hval 20 67 (by decide) rfl
            | 68, _ => exact hval 21 68 (by decide) rfl
            | 69, _ => exact hout 69 (notDst_spec (by kernel_rfl))
            | 70, _ => exact hout 70 (notDst_spec (by kernel_rfl))
            | 71, _ => exact hout 71 (notDst_spec (by kernel_rfl))
            | 72, _ => exact hout 72 (notDst_spec (by kernel_rfl))
            | 73, _ => exact hout 73 (notDst_spec (by kernel_rfl))
            | 74, _ => exact hout 74 (notDst_spec (by kernel_rfl))
            | 75, _ => exact hout 75 (notDst_spec (by kernel_rfl))
            | 76, _ => exact hout 76 (notDst_spec (by kernel_rfl))
            | 77, _ => exact hout 77 (notDst_spec (by kernel_rfl))
            | 78, _ => exact hout 78 (notDst_spec (by kernel_rfl))
            | 79, _ => exact hout 79 (notDst_spec (by kernel_rfl))
            | 80, _ => exact hout 80 (notDst_spec (by kernel_rfl))
            | 81, _ => exact hout 81 (notDst_spec (by kernel_rfl))
            | 82, _ => exact hout 82 (notDst_spec (by kernel_rfl))
            | 83, _ => exact hout 83 (notDst_spec (by kernel_rfl))
            | 84, _ => exact hout 84 (notDst_spec (by kernel_rfl))
            | 85, _ => exact hout 85 (notDst_spec (by kernel_rfl))
            | 86, _ => exact hout 86 (notDst_spec (by kernel_rfl))
            | 87, _ => exact hout 87 (notDst_spec (by kernel_rfl))
            | 88, _ => exact hout 88 (notDst_spec (by kernel_rfl))
            | 89, _ => exact hout 89 (notDst_spec (by kernel_rfl))
            | 90, _ => exact hout 90 (notDst_spec (by kernel_rfl))
            | n + 91, h => exact absurd h (by simp)
          obtain ⟨tt, dd⟩ := aa
          simp only at hat hdf
          subst hat hdf
          clear hsz hout hval
          obtain ⟨x9, rfl, hj9, hb9⟩ := hR9
          simp only [show tupAt (.tuple #[x9, .int .i64 0]) 0 = x9 from rfl, show tupAt (.tuple #[x9, .int .i64 0]) 1 = .int .i64 0 from rfl]
          have HJ9 := hd hj9.isB
          have HB9 := hd (HB0.out.trans (hb9.mono hs9))
          have JO9 := hd (JO0.out.keepAll hb9)
          have hs10 : w1.heap.size ≤ w9.heap.size := HB9.out.size
          clear hj9 hb9 HEN HR0 Jr0 JO0 HB0
          go_simp
          go_wp2_with (at_builtin; refine wpList_append_jb _ rfl _ _ rfl w1.heap.size _ _ (hbs (L.take k)) EB rfl rfl JO9.out HJ9.out (hbs (L.take (k + 1))).length (by rw [HTK.out, List.length_append]) (hbs (L.take (k + 1))) HTK.out.symm (by have := HBND.out; omega) hs10 ?_; intro a3 c3 w3 hJ3 hg3 hc3; have HJ3 := hd hJ3; have HB3 := hd (JO9.out.grown HB9.out (Nat.le_refl _) hs10 hg3); clear hJ3 hg3)
          exact ⟨⟨k + 1, HLT.out, by go_num, HRK.out, HJ3.out, HB3.out⟩, by simp [intOf]; omega⟩
        --END r12
    · have hki : ¬ ((k : Nat) : Int) < (L.length : Int) := by omega
      obtain rfl : k = L.length := by omega
      rw [List.take_length] at HRE JO hoc ⊢
      have HM := hd (show May l from ⟨by omega, HCL.out, fun x hx => HRE.out x (by rw [HL.out]; exact hx)⟩)
      have HIQ := hd (HI.out.below (HB1.out.trans (HBR.out.mono hs1)))
      go_wp2_with fail
      refine Calls.mono (r1_sum _ l wq HIQ.out (by omega)) ?_
      rintro e w3 ⟨rfl, rfl⟩
      have hcr := Crc.go_lt 0 l
      have hok := ffr_ok HI.out.1 (show l.length ≤ 4194304 by omega)
      have HES := hd (en_small hok.2 hok.1)
      have hen := fun w => r4_enc_foot (edg l) w hok.2 hok.1
      have HHO : Hid (hof l = hbs L ++ en (ffr (edg l))) := by show hof l = _; rw [HL.out]; rfl
      have hbn := hbs_len (L := L) (fun y hy => hfr_ok HI.out.1 (show l.length ≤ 4194304 by omega) (by rw [← HL.out]; exact hy) (HRE.out y hy))
      have HBN : Hid ((hbs L).length ≤ 10000000000) := by show _ ≤ _; omega
      obtain ⟨EB, hEB⟩ : ∃ EB, EB = en (ffr (edg l)) := ⟨_, rfl⟩
      rw [← hEB] at hen HHO HES
      have HEN : Hid (∀ w, Calls Try.prog 10 #[.agg #[.int .i64 4, .int .u64 0, .int .i64 0, .string ⟨#[]⟩, .string ⟨#[]⟩, .int .u64 0, .int .i64 0, .int .i64 0, .int .i64 0, .string ⟨#[]⟩, .int .i64 ((L.length : Nat) : Int), .int .i64 ((l.length : Nat) : Int), .int .i64 ((L.length : Nat) : Int), .int .u32 ((Crc.go 0 l : Nat) : Int)]] w fun e w' => ∃ u, e = .returned (.tuple #[u, .int .i64 0]) ∧ JB w' w.heap.size u EB ∧ Below w.heap.size w w') := by
        rw [HL.out]; exact hen
      clear hok hen hbn hEB
      go_wp2_with fail
      have hbz : Below w3.heap.size w3 (w3.alloc (.cells #[.int .i64 ((l.length : Nat) : Int), .int .i64 ((L.length : Nat) : Int), .int .u32 ((Crc.go 0 l : Nat) : Int)] 30)) := (Below.refl _ _).alloc (Nat.le_refl _) _
      obtain ⟨w4, hw4⟩ : ∃ w4, w4 = w3.alloc (.cells #[.int .i64 ((l.length : Nat) : Int), .int .i64 ((L.length : Nat) : Int), .int .u32 ((Crc.go 0 l : Nat) : Int)] 30) := ⟨_, rfl⟩
      rw [← hw4] at hbz ⊢
      have JO4 := hd (JO.out.keepAll hbz)
      have HB4 := hd (HBR.out.trans (hbz.mono hsr))
      have hs4 : w1.heap.size ≤ w4.heap.size := HB4.out.size
      clear hbz hw4 JO HBR
      refine Calls.mono (HEN.out w4) ?_
      rintro e w5 ⟨u5, rfl, hj5, hb5⟩
      have HI5 := hd hj5.isB
      have JO5 := hd (JO4.out.keepAll hb5)
      have HB5 := hd (HB4.out.trans (hb5.mono hs4))
      have hs5 : w1.heap.size ≤ w5.heap.size := HB5.out.size
      clear hj5 hb5 HEN JO4 HB4
      go_wp2_with (at_builtin; refine wpList_append_jb _ rfl _ _ rfl w1.heap.size _ _ (hbs L) EB rfl rfl JO5.out HI5.out (hof l).length (by rw [HHO.out, List.length_append]) (hof l) HHO.out.symm (by have := HBN.out; have := HES.out; have := congrArg List.length HHO.out; rw [List.length_append] at this; omega) hs5 ?_; intro a6 c6 w6 hJ6 hg6 hc6; have HJ6 := hd hJ6; have HB6 := hd (JO5.out.grown HB5.out (Nat.le_refl _) hs5 hg6); clear hJ6 hg6)
      go_ret2
      exact ⟨.inl ⟨HM.out, _, rfl, HJ6.out.base hs1⟩, HB1.out.trans (HB6.out.mono hs1)⟩
end Vt
end Go.Proofs.Ytnjhbidialngmaa
namespace Go.Proofs.Ytnjhbidialngmaa
open Go.RowKit Go.Shelf
namespace Vt
attribute [local go_sem] Oper.semAt_some
theorem info_ptr : (Try.prog.info? 27).map (fun i => (i.zero, i.size, i.bytes)) = some (some (.agg #[.int .u64 0, .int .i64 0, .int .i64 0, .int .i64 0, .string ⟨#[]⟩]), 5, 48) := by kernel_rfl
abbrev JPt := JR 27 5
def pvl (p : Ptr) : List Value := [.int .u64 (p.lsn : Int), .int .i64 p.kind, .int .i64 p.at_, .int .i64 p.len, .string p.key]
theorem pvl_one (p : Ptr) : ∀ u ∈ pvl p, u.oneCell' = true := by
  intro u hu
  simp only [pvl, List.mem_cons, List.mem_nil_iff, or_false] at hu
  rcases hu with rfl | rfl | rfl | rfl | rfl <;> rfl
def evl (e : Edg) : List Value := [.int .i64 e.count, .int .i64 e.bytes, .int .i64 e.frames, .int .u32 (e.sum : Int)]
/-- what is read so far, in memory: the boxes from N on -/
structure PS (N base : Nat) (W : World) (s : St) : Prop where
  row : ∃ vp, Boxed W N 65 vp ∧ JPt W base vp (s.ps.map pvl)
  e : Blk W (N + 1) 32 (evl s.e)
  ended : Boxed W (N + 2) 4 (.bool s.ended)
  next : Boxed W (N + 3) 3 (.int .i64 s.next)
theorem box_o {W : World} {B B' j : Nat} {t : TypeId} {v : Value} (h : Boxed W B t v) (hne : B' ≠ B) {u : Value} : Boxed (W.setCell ⟨B', j, none⟩ u) B t v := Blk.other (cs := [v]) h (p := ⟨B', j, none⟩) hne u
theorem box_four {W : World} {B A : Nat} {t : TypeId} {v a b c d : Value} (h : Boxed W B t v) (h1 : A ≠ B) : Boxed ((((W.setCell ⟨A, 0, none⟩ a).setCell ⟨A, 1, none⟩ b).setCell ⟨A, 2, none⟩ c).setCell ⟨A, 3, none⟩ d) B t v := box_o (box_o (box_o (box_o h h1) h1) h1) h1
theorem ps_grown {N base : Nat} {W WW w2 : World} {vp : Value} {L : List (List Value)} {e4 : List Value} {b5 : Bool} {z6 : Int} (h1 : Boxed W N 65 vp) (h2 : JPt W base vp L) (h3 : Blk W (N + 1) 32 e4) (h4 : Boxed W (N + 2) 4 (.bool b5)) (h5 : Boxed W (N + 3) 3 (.int .i64 z6))
    (hb : Below W.heap.size W WW) (hg : WW.grownBy w2 vp.ownBlock) :
    Boxed w2 N 65 vp ∧ Blk w2 (N + 1) 32 e4 ∧ Boxed w2 (N + 2) 4 (.bool b5) ∧ Boxed w2 (N + 3) 3 (.int .i64 z6) ∧ (∀ n w0, n ≤ base → n ≤ W.heap.size → Below n w0 W → Below n w0 w2) ∧ (∀ (p : Addr) (u : Value), W.heap.size ≤ p.block → WW.cell? p = some u → w2.cell? p = some u) := by
  have hj := h2.keepAll hb
  have l1 := h1.lt
  have l5 := h5.lt
  have g1 : Boxed WW N 65 vp := boxed_below h1 l1 hb
  have g3 : Blk WW (N + 1) 32 e4 := h3.keep hb
  have g4 : Boxed WW (N + 2) 4 (.bool b5) := boxed_below h4 (by omega) hb
  have g5 : Boxed WW (N + 3) 3 (.int .i64 z6) := boxed_below h5 l5 hb
  refine ⟨g1.kept hg (hj.not_box g1 (by decide)), g3.grown hg (hj.not_blk g3 (by decide)), g4.kept hg (hj.not_box g4 (by decide)), g5.kept hg (hj.not_box g5 (by decide)), fun n w0 hn hn2 h => ?_, fun p u hp hu => hg.cell hu (fun e => ?_)⟩
  · exact (h.trans (hb.mono hn2)).grown hg (Nat.le_trans hn2 hb.size) (fun k hk => Nat.le_trans hn (hj.blk_ge k hk))
  · have := h2.blk_lt p.block e.symm
    omega
set_option maxRecDepth 100000 in
set_option maxHeartbeats 2000000 in
theorem parts1_ended (f : Fr) (at_ len : Int) (N base : Nat) (W : World) (s : St) (h : PS N base W s) (he : s.ended = true) :
    Calls Try.prog 81 #[.agg (lfv f at_ len), .pointer (some ⟨N + 2, 0, none⟩), .pointer (some ⟨N + 1, 0, none⟩), .pointer (some ⟨N + 3, 0, none⟩), .pointer (some ⟨N, 0, none⟩)] W fun e W' => e = .returned (.bool false) ∧ Below W.heap.size W W' := by
  obtain ⟨k, ⟨rl, rk, rkey, rval⟩, ⟨pl, pk, pa, pn, pkey⟩, ⟨ec, eb, ef, es⟩⟩ := f
  have hen := h.ended
  rw [he] at hen
  have q1 := hen.cell
  have q2 := hen.lt
  have n1 : ¬ N + 2 = W.heap.size := by omega
  have n2 : ¬ W.heap.size = N + 2 := by omega
  clear h he hen
  simp only [lfv]
  go_enter Try.func81, Try.ntmps81
  go_wp2_with fail
  go_ret
  exact ⟨rfl, below_two _ _ _⟩
set_option maxRecDepth 100000 in
set_option maxHeartbeats 2000000 in
theorem parts1_foot (f : Fr) (at_ len : Int) (N base : Nat) (W : World) (s : St) (h : PS N base W s) (he : s.ended = false) (hk : f.kind = 4) :
    Calls Try.prog 81 #[.agg (lfv f at_ len), .pointer (some ⟨N + 2, 0, none⟩), .pointer (some ⟨N + 1, 0, none⟩), .pointer (some ⟨N + 3, 0, none⟩), .pointer (some ⟨N, 0, none⟩)] W fun e W' => e = .returned (.bool true) ∧ PS N base W' ⟨s.ps, f.e, true, s.next⟩ ∧ (∀ n w0, n ≤ N → n ≤ base → Below n w0 W → Below n w0 W') := by
  obtain ⟨k, ⟨rl, rk, rkey, rval⟩, ⟨pl, pk, pa, pn, pkey⟩, ⟨ec, eb, ef, es⟩⟩ := f
  obtain ⟨s1, ⟨s2, s3, s4, s5⟩, s6, s7⟩ := s
  simp only at hk he
  subst hk he
  obtain ⟨⟨vp, h1, h2⟩, h3, h4, h5⟩ := h
  simp only [evl] at h3
  have q1 := h4.cell
  have q1f := h4.frozen
  have q2 := h4.lt
  have q3 := h5.lt
  have n0a : ¬ N = W.heap.size := by omega
  have n0b : ¬ W.heap.size = N := by omega
  have n0c : ¬ N = W.heap.size + 1 := by omega
  have n0d : ¬ W.heap.size + 1 = N := by omega
  have n0e : N < W.heap.size := by omega
  have n1a : ¬ N + 1 = W.heap.size := by omega
  have n1b : ¬ W.heap.size = N + 1 := by omega
  have n1c : ¬ N + 1 = W.heap.size + 1 := by omega
  have n1d : ¬ W.heap.size + 1 = N + 1 := by omega
  have n1e : N + 1 < W.heap.size := by omega
  have n2a : ¬ N + 2 = W.heap.size := by omega
  have n2b : ¬ W.heap.size = N + 2 := by omega
  have n2c : ¬ N + 2 = W.heap.size + 1 := by omega
  have n2d : ¬ W.heap.size + 1 = N + 2 := by omega
  have n2e : N + 2 < W.heap.size := by omega
  have n3a : ¬ N + 3 = W.heap.size := by omega
  have n3b : ¬ W.heap.size = N + 3 := by omega
  have n3c : ¬ N + 3 = W.heap.size + 1 := by omega
  have n3d : ¬ W.heap.size + 1 = N + 3 := by omega
  have n3e : N + 3 < W.heap.size := by omega
  have c0 := h3.cell 0 _ rfl
  have c1 := h3.cell 1 _ rfl
  have c2 := h3.cell 2 _ rfl
  have c3 := h3.cell 3 _ rfl
  have f0 := h3.frozen 0
  have f1 := h3.frozen 1
  have f2 := h3.frozen 2
  have f3 := h3.frozen 3
  have H1 := hd h1
  have H2 := hd h2
  have H3 := hd h3
  have H4 := hd h4
  have H5 := hd h5
  clear h1 h2 h3 h4 h5
  simp only [lfv]
  go_enter Try.func81, Try.ntmps81
  go_wp2_with fail
  go_ret
  refine ⟨rfl, ⟨⟨vp, ?_, ?_⟩, ?_, ?_, ?_⟩, fun n w0 hn _ h => ?_⟩
  · exact ((box_o (box_four H1.out (by omega)) (by omega)).alloc _).alloc _
  · have nn := H2.out.not_blk H3.out (by decide)
    have nb := H2.out.not_box H4.out (by decide)
    exact (((((((H2.out.setO (p := ⟨N + 1, 0, none⟩) (fun g hg e => nn (by rw [hg, e])) _).setO (p := ⟨N + 1, 1, none⟩) (fun g hg e => nn (by rw [hg, e])) _).setO (p := ⟨N + 1, 2, none⟩) (fun g hg e => nn (by rw [hg, e])) _).setO (p := ⟨N + 1, 3, none⟩) (fun g hg e => nn (by rw [hg, e])) _).setO (p := ⟨N + 2, 0, none⟩) (fun g hg e => nb (by rw [hg, e])) _).alloc _).alloc _)
  · exact ((((((H3.out.set (j := 0) _).set (j := 1) _).set (j := 2) _).set (j := 3) _).other (p := ⟨N + 2, 0, none⟩) (by show N + 2 ≠ N + 1; omega) _).alloc _).alloc _
  · exact (((box_four H4.out (by omega)).set _).alloc _).alloc _
  · exact ((box_o (box_four H5.out (by omega)) (by omega)).alloc _).alloc _
  · refine Below.alloc (Below.alloc ?_ ?_ _) ?_ _
    · exact ((((h.setCell (p := ⟨N + 1, 0, none⟩) (by show n ≤ N + 1; omega) _).setCell (p := ⟨N + 1, 1, none⟩) (by show n ≤ N + 1; omega) _).setCell (p := ⟨N + 1, 2, none⟩) (by show n ≤ N + 1; omega) _).setCell (p := ⟨N + 1, 3, none⟩) (by show n ≤ N + 1; omega) _).setCell (p := ⟨N + 2, 0, none⟩) (by show n ≤ N + 2; omega) _
    · simp only [World.setCell, Array.size_modify]; omega
    · simp only [World.size_alloc, World.setCell, Array.size_modify]; omega
set_option maxRecDepth 100000 in
set_option maxHeartbeats 2000000 in
theorem parts1_hint (f : Fr) (at_ len : Int) (N base : Nat) (W : World) (s : St) (h : PS N base W s) (he : s.ended = false) (hk : f.kind = 3) (hn : f.p.at_ = s.next) (hb : 0 ≤ s.next + f.p.len ∧ s.next + f.p.len ≤ 1000000000000) (hl : s.ps.length ≤ 1000000000) (hbase : base ≤ W.heap.size) :
    Calls Try.prog 81 #[.agg (lfv f at_ len), .pointer (some ⟨N + 2, 0, none⟩), .pointer (some ⟨N + 1, 0, none⟩), .pointer (some ⟨N + 3, 0, none⟩), .pointer (some ⟨N, 0, none⟩)] W fun e W' => e = .returned (.bool true) ∧ PS N base W' ⟨s.ps ++ [f.p], s.e, s.ended, s.next + f.p.len⟩ ∧ (∀ n w0, n ≤ N → n ≤ base → Below n w0 W → Below n w0 W') := by
  obtain ⟨k, ⟨rl, rk, rkey, rval⟩, ⟨pl, pk, pa, pn, pkey⟩, ⟨ec, eb, ef, es⟩⟩ := f
  obtain ⟨s1, ⟨s2, s3, s4, s5⟩, s6, s7⟩ := s
  simp only at hk he hn hb hl
  subst hk he hn
  obtain ⟨⟨vp, h1, h2⟩, h3, h4, h5⟩ := h
  have q1 := h4.cell
  have q2 := h4.lt
  have q3 := h5.lt
  have q4 := h5.cell
  have q4f := h5.frozen
  have q5 := h1.cell
  have q5f := h1.frozen
  have n0a : ¬ N = W.heap.size := by omega
  have n0b : ¬ W.heap.size = N := by omega
  have n0c : ¬ N = W.heap.size + 1 := by omega
  have n0d : ¬ W.heap.size + 1 = N := by omega
  have n0e : N < W.heap.size := by omega
  have n1a : ¬ N + 1 = W.heap.size := by omega
  have n1b : ¬ W.heap.size = N + 1 := by omega
  have n1c : ¬ N + 1 = W.heap.size + 1 := by omega
  have n1d : ¬ W.heap.size + 1 = N + 1 := by omega
  have n1e : N + 1 < W.heap.size := by omega
  have n2a : ¬ N + 2 = W.heap.size := by omega
  have n2b : ¬ W.heap.size = N + 2 := by omega
  have n2c : ¬ N + 2 = W.heap.size + 1 := by omega
  have n2d : ¬ W.heap.size + 1 = N + 2 := by omega
  have n2e : N + 2 < W.heap.size := by omega
  have n3a : ¬ N + 3 = W.heap.size := by omega
  have n3b : ¬ W.heap.size = N + 3 := by omega
  have n3c : ¬ N + 3 = W.heap.size + 1 := by omega
  have n3d : ¬ W.heap.size + 1 = N + 3 := by omega
  have n3e : N + 3 < W.heap.size := by omega
  have H1 := hd h1
  have H2 := hd h2
  have H3 := hd h3
  have H4 := hd h4
  have H5 := hd h5
  clear h1 h2 h3 h4 h5
  simp only [lfv]
  go_enter Try.func81, Try.ntmps81
  have hpl := H2.out.shape
  have HWW : Hid (∀ A B C : Obj, Below W.heap.size W (((W.alloc A).alloc B).alloc C)) := fun A B C => (below_two W A B).alloc (by simp; omega) _
  go_wp2_with (at_builtin; refine wpList_append_jr Try.underlying65 info_ptr rfl (by decide) _ rfl _ _ rfl base vp (s1.map pvl) (W.heap.size + 1 + 1) 1 (pvl ⟨pl, pk, pa, pn, pkey⟩) rfl rfl (((H2.out.alloc _).alloc _).alloc _) rfl (pvl_one ⟨pl, pk, pa, pn, pkey⟩) (fun j u hu => cell_lit _ _ (pvl ⟨pl, pk, pa, pn, pkey⟩) j u _ (by simp) hu) (s1.length + 1) (by rw [List.length_map]) (by omega) (by unfold maxLen; omega) (by simp; omega) ?_; intro g2 c2 w2 hj2 hg2 hw2; have hz := ps_grown H1.out H2.out H3.out H4.out H5.out (HWW.out _ _ _) hg2; have z1 := hz.1.cell; have z2 := hz.1.frozen; have z3 := hz.2.2.2.1.cell; have z4 := hz.2.2.2.1.frozen; have z5 := hz.2.2.2.2.2 ⟨W.heap.size + 1, 3, none⟩ (.int .i64 pn) (by simp) (by simp [go_sem]); have HZ := hd hz; have HJ2 := hd hj2; have HG2 := hd hw2; clear hj2 hg2 hw2 hz)
  go_ret
  obtain ⟨z1, z2, z3, z4, z5, _⟩ := HZ.out
  have hj := HJ2.out
  have n1 := hj.not_box z1 (by decide)
  have n4 := hj.not_box z4 (by decide)
  refine ⟨rfl, ⟨⟨.slice (some ⟨g2, 0, none⟩) (s1.length + 1) c2, box_o (z1.set _) (by omega), ?_⟩, (z2.other (p := ⟨N, 0, none⟩) (by show N ≠ N + 1; omega) _).other (p := ⟨N + 3, 0, none⟩) (by show N + 3 ≠ N + 1; omega) _, box_o (box_o z3 (by omega)) (by omega), (box_o z4 (by omega)).set _⟩, fun n w0 hn hn2 h => ?_⟩
  · have e1 : (s1 ++ [(⟨pl, pk, pa, pn, pkey⟩ : Ptr)]).map pvl = s1.map pvl ++ [pvl ⟨pl, pk, pa, pn, pkey⟩] := by simp
    rw [e1]
    exact (hj.setO (p := ⟨N, 0, none⟩) (fun g hg e => n1 (by rw [hg, e])) _).setO (p := ⟨N + 3, 0, none⟩) (fun g hg e => n4 (by rw [hg, e])) _
  · exact ((z5 n w0 hn2 (by omega) h).setCell (p := ⟨N, 0, none⟩) hn _).setCell (p := ⟨N + 3, 0, none⟩) (by show n ≤ N + 3; omega) _
set_option maxRecDepth 100000 in
set_option maxHeartbeats 2000000 in
theorem parts1_no (f : Fr) (at_ len : Int) (N base : Nat) (W : World) (s : St) (h : PS N base W s) (he : s.ended = false) (hk : f.kind ≠ 4) (hn : ¬ (f.kind = 3 ∧ f.p.at_ = s.next)) :
    Calls Try.prog 81 #[.agg (lfv f at_ len), .pointer (some ⟨N + 2, 0, none⟩), .pointer (some ⟨N + 1, 0, none⟩), .pointer (some ⟨N + 3, 0, none⟩), .pointer (some ⟨N, 0, none⟩)] W fun e W' => e = .returned (.bool false) ∧ Below W.heap.size W W' := by
  obtain ⟨k, ⟨rl, rk, rkey, rval⟩, ⟨pl, pk, pa, pn, pkey⟩, ⟨ec, eb, ef, es⟩⟩ := f
  obtain ⟨s1, ⟨s2, s3, s4, s5⟩, s6, s7⟩ := s
  simp only at hk he hn
  subst he
  obtain ⟨_, _, h4, h5⟩ := h
  have q1 := h4.cell
  have q2 := h4.lt
  have q3 := h5.lt
  have q4 := h5.cell
  simp only at q1 q4
  have n1 : ¬ N + 2 = W.heap.size := by omega
  have n2 : ¬ W.heap.size = N + 2 := by omega
  have n3 : ¬ N + 3 = W.heap.size := by omega
  have n4 : ¬ W.heap.size = N + 3 := by omega
  have n5 : N + 2 < W.heap.size := by omega
  have e4 : (k == 4) = false := by simp [hk]
  by_cases h3 : k = 3
  · subst h3
    have hna : ¬ pa = s7 := fun e => hn ⟨rfl, e⟩
    have e5 : (pa == s7) = false := by simp [hna]
    clear hk hn h4 h5 hna e4
    simp only [lfv]
    go_enter Try.func81, Try.ntmps81
    go_wp2_with fail
    go_ret
    exact ⟨rfl, below_two _ _ _⟩
  · have e3 : (k == 3) = false := by simp [h3]
    clear hk hn h4 h5 h3
    simp only [lfv]
    go_enter Try.func81, Try.ntmps81
    go_wp2_with fail
    go_ret
    exact ⟨rfl, below_two _ _ _⟩
theorem PS.below {N base : Nat} {W W' : World} {s : St} (h : PS N base W s) (hb : Below W.heap.size W W') : PS N base W' s := by
  obtain ⟨⟨vp, h1, h2⟩, h3, h4, h5⟩ := h
  exact ⟨⟨vp, boxed_below h1 h1.lt hb, h2.keepAll hb⟩, h3.keep hb, boxed_below h4 h4.lt hb, boxed_below h5 h5.lt hb⟩
/-- between two frames -/
def PtJ (N : Nat) (w : World) (l : List Nat) (pre : List Lc) (W : World) : Prop :=
  ∃ s, sts (some st0) pre = some s ∧ PS N (N + 4) W s ∧ Below w.heap.size w W ∧ N + 4 ≤ W.heap.size ∧ pre <+: locs 0 l ∧ (s.ps.length : Int) ≤ s.next
theorem PtJ.below {N : Nat} {w : World} {l : List Nat} {pre : List Lc} {W W' : World} (h : PtJ N w l pre W) (hb : Below W.heap.size W W') (hN : w.heap.size ≤ N) : PtJ N w l pre W' := by
  obtain ⟨s, h1, h2, h3, h4, h5⟩ := h
  exact ⟨s, h1, h2.below hb, h3.trans (hb.mono (by omega)), Nat.le_trans h4 hb.size, h5⟩
theorem parts1_take (N : Nat) (w : World) (hN : w.heap.size ≤ N) (l : List Nat) (hb : Byt l) (pre : List Lc) (x : Lc) (W : World) (h : PtJ N w l pre W) (hp : pre ++ [x] <+: locs 0 l) :
    Calls Try.prog 81 (#[.agg (lfv x.2.2 (x.1 : Int) (x.2.1 : Int))] ++ #[.pointer (some ⟨N + 2, 0, none⟩), .pointer (some ⟨N + 1, 0, none⟩), .pointer (some ⟨N + 3, 0, none⟩), .pointer (some ⟨N, 0, none⟩)]) W fun e W' => (e = .returned (.bool true) ∧ PtJ N w l (pre ++ [x]) W') ∨ (e = .returned (.bool false) ∧ sts (some st0) (pre ++ [x]) = none ∧ (∃ s, PS N (N + 4) W' s) ∧ Below w.heap.size w W' ∧ N + 4 ≤ W'.heap.size) := by
  obtain ⟨s, h1, h2, h3, h4, h5, h6⟩ := h
  have hx : x ∈ locs 0 l := hp.subset (by simp)
  obtain ⟨_, _, _, _, hrf, hwf⟩ := locs_mem hb 0 x hx
  have hst : sts (some st0) (pre ++ [x]) = stp s x.2.2 := by rw [sts_snoc, h1]; rfl
  rw [hst]
  cases he : s.ended with
  | true =>
    refine (parts1_ended x.2.2 _ _ N (N + 4) W s h2 he).mono ?_
    rintro e W' ⟨rfl, hb'⟩
    exact .inr ⟨rfl, by unfold stp; rw [if_pos he], ⟨s, h2.below hb'⟩, h3.trans (hb'.mono (by omega)), Nat.le_trans h4 hb'.size⟩
  | false =>
    by_cases hk : x.2.2.kind = 4
    · refine (parts1_foot x.2.2 _ _ N (N + 4) W s h2 he hk).mono ?_
      rintro e W' ⟨rfl, g1, g2⟩
      refine .inl ⟨rfl, _, by rw [hst]; unfold stp; rw [if_neg (by simp [he]), if_pos hk], g1, g2 _ w hN (by omega) h3, ?_, hp, h6⟩
      have := g1.next.lt
      omega
    · by_cases hq : x.2.2.kind = 3 ∧ x.2.2.p.at_ = s.next
      · have hrp : rfP x.2.2 = 0 := by
          have := hrf
          unfold rf at this
          rw [if_neg (by omega), if_pos hq.1] at this
          exact this
        obtain ⟨_, _, _, ⟨p1, p2⟩, ⟨p3, p4⟩, p5, _⟩ := rfP_ok hrp
        refine (parts1_hint x.2.2 _ _ N (N + 4) W s h2 he hq.1 hq.2 (by rw [← hq.2]; omega) (by omega) h4).mono ?_
        rintro e W' ⟨rfl, g1, g2⟩
        refine .inl ⟨rfl, _, by rw [hst]; unfold stp; rw [if_neg (by simp [he]), if_neg hk, if_pos hq], g1, g2 _ w hN (by omega) h3, ?_, hp, by simp only [List.length_append, List.length_singleton]; omega⟩
        have := g1.next.lt
        omega
      · refine (parts1_no x.2.2 _ _ N (N + 4) W s h2 he hk hq).mono ?_
        rintro e W' ⟨rfl, hb'⟩
        exact .inr ⟨rfl, by unfold stp; rw [if_neg (by simp [he]), if_neg hk, if_neg hq], ⟨s, h2.below hb'⟩, h3.trans (hb'.mono (by omega)), Nat.le_trans h4 hb'.size⟩
end Vt
end Go.Proofs.Ytnjhbidialngmaa
