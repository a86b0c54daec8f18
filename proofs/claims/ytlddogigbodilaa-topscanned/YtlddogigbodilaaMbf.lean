/-
  THE REFERENCE OF LAYER 5: All: every place is asked whether a frame begins there.
  ONE BYTE OF FRAMES THAT LIE END TO END IS TURNED, plainly: they lie end to end no more.
  hint.written; hint.through: frames from end to end, each handed to a function value.
-/
import Derived.Test.YtlddogigbodilaaMbe
import Derived.Test.YtlddogigbodilaaMap
import Derived.Test.YtlddogigbodilaaMay
import Derived.Test.YtlddogigbodilaaMav
import Derived.Test.YtlddogigbodilaaMau
import Derived.Test.YtlddogigbodilaaMas
namespace Go.Proofs.Ytlddogigbodilaa
open Go.RowKit Go.Shelf
namespace Vt
attribute [local go_sem] Oper.semAt_some
abbrev JFo := JR 43 16
/-- the cells of a frame that was found -/
def fov (x : Lc) : List Value := [.int .i64 (x.1 : Int), .int .i64 (x.2.1 : Int), .int .i64 x.2.2.kind, .int .u64 (x.2.2.r.lsn : Int), .int .i64 x.2.2.r.kind, .string x.2.2.r.key, .string x.2.2.r.val, .int .u64 (x.2.2.p.lsn : Int), .int .i64 x.2.2.p.kind, .int .i64 x.2.2.p.at_, .int .i64 x.2.2.p.len, .string x.2.2.p.key, .int .i64 x.2.2.e.count, .int .i64 x.2.2.e.bytes, .int .i64 x.2.2.e.frames, .int .u32 (x.2.2.e.sum : Int)]
theorem info_fo : (Try.prog.info? 43).map (fun i => (i.zero, i.size, i.bytes)) = some (some (.agg #[.int .i64 0, .int .i64 0, .int .i64 0, .int .u64 0, .int .i64 0, .string ⟨#[]⟩, .string ⟨#[]⟩, .int .u64 0, .int .i64 0, .int .i64 0, .int .i64 0, .string ⟨#[]⟩, .int .i64 0, .int .i64 0, .int .i64 0, .int .u32 0]), 16, 152) := by kernel_rfl
theorem fov_one (x : Lc) : ∀ u ∈ fov x, u.oneCell' = true := by
  intro u hu
  simp only [fov, List.mem_cons, List.mem_nil_iff, or_false] at hu
  rcases hu with rfl | rfl | rfl | rfl | rfl | rfl | rfl | rfl | rfl | rfl | rfl | rfl | rfl | rfl | rfl | rfl <;> rfl
theorem locs_step {l : List Nat} {k : Nat} (hk : k < l.length) : ((dcd (l.drop k)).2.2 = 0 → locs k (l.drop k) = (k, (dcd (l.drop k)).2.1, (dcd (l.drop k)).1) :: locs (k + 1) (l.drop (k + 1))) ∧ ((dcd (l.drop k)).2.2 ≠ 0 → locs k (l.drop k) = locs (k + 1) (l.drop (k + 1))) := by
  have e : l.drop k = l[k] :: l.drop (k + 1) := List.drop_eq_getElem_cons hk
  constructor
  · intro h
    rw [e] at h ⊢
    rw [locs, if_pos h]
  · intro h
    rw [e] at h ⊢
    rw [locs, if_neg h]
theorem decF_at {l : List Nat} {k : Nat} (hk : k < l.length) : decF l (k : Int) = dcd (l.drop k) := by
  unfold decF
  rw [if_neg (by omega), Int.toNat_natCast]
set_option maxRecDepth 100000 in
set_option maxHeartbeats 2000000 in
theorem r5_all (v : Value) (l : List Nat) (w : World) (hI : IsB w v l) (hl : l.length ≤ 16777216) :
    Calls Try.prog 10 #[v] w fun e w' => ∃ v', e = .returned v' ∧ JFo w' w.heap.size v' ((locs 0 l).map fov) ∧ Below w.heap.size w w' := by
  obtain ⟨a, c, rfl⟩ := hI.shape
  have HI := hd hI
  have hby := hI.1
  have HLL := hd (fun k => locs_len (byt_drop hby k) _ (Nat.le_refl _) k)
  clear hI hby
  go_enter Try.func10, Try.ntmps10
  go_wp2_with fail
  go_loopw [3, 4] (fun o i wr => ∃ (k : Nat) (pre : List Lc), k ≤ l.length ∧ i = .int .i64 (k : Int) ∧ JFo wr w.heap.size o (pre.map fov) ∧ pre ++ locs k (l.drop k) = locs 0 l ∧ Below w.heap.size w wr) (fun _ i _ => l.length - (intOf i).toNat)
  case atStart => exact ⟨0, [], by omega, rfl, jr_nil _ _, by simp, Below.refl _ _⟩
  case round =>
    obtain ⟨k, pre, hk, rfl, hj, hpre, hb⟩ := hrel
    obtain ⟨av, cv, rfl, hcv⟩ := hj.shape
    have hpl : (pre.map fov).length = pre.length := List.length_map _
    have hpn : 9 * pre.length ≤ l.length := by
      have h1 := HLL.out 0
      rw [List.drop_zero, ← hpre, List.length_append] at h1
      omega
    rw [hpl] at hcv hj ⊢
    have HJ := hd hj
    have HPRE := hd hpre
    have HB := hd hb
    have hsz := hb.size
    clear hj hpre hb
    by_cases hlt : k < l.length
    · have HST := hd (locs_step hlt)
      have HDE := hd (fun w' (h : Below w.heap.size w w') => r4_decode _ l (k : Int) w' (HI.out.below h) (by omega))
      rw [decF_at hlt] at HDE
      obtain ⟨f, q, er, hdd⟩ : ∃ f q er, dcd (l.drop k) = (f, q, er) := ⟨_, _, _, rfl⟩
      rw [hdd] at HDE HST
      clear hdd
      obtain ⟨fk, ⟨rl, rk, rkey, rval⟩, ⟨pl, pk, pa, pn, pkey⟩, ⟨ec, eb, ef, es⟩⟩ := f
      simp only [dval, fv] at HDE
      go_wp2_with fail
      refine Calls.mono (HDE.out _ HB.out) ?_
      rintro e w1 ⟨rfl, hb1⟩
      have HJ1 := hd (HJ.out.keepAll hb1)
      have HB1 := hd (HB.out.trans (hb1.mono hsz))
      have hs1 := hb1.size
      clear hb1 HDE HJ HB
      by_cases her : er = 0
      · subst her
        have HS1 := hd (HST.out.1 rfl)
        have HONE : Hid (∀ u ∈ ([.int .i64 (k : Int), .int .i64 (q : Int), .int .i64 fk, .int .u64 (rl : Int), .int .i64 rk, .string rkey, .string rval, .int .u64 (pl : Int), .int .i64 pk, .int .i64 pa, .int .i64 pn, .string pkey, .int .i64 ec, .int .i64 eb, .int .i64 ef, .int .u32 (es : Int)] : List Value), u.oneCell' = true) := hd (fov_one (k, q, ⟨fk, ⟨rl, rk, rkey, rval⟩, ⟨pl, pk, pa, pn, pkey⟩, ⟨ec, eb, ef, es⟩⟩))
        clear HST
        go_wp2_with (at_builtin; refine wpList_append_jr Try.underlying24 info_fo rfl (by decide) _ rfl _ _ rfl w.heap.size (.slice av pre.length cv) (pre.map fov) (w1.heap.size + 1) 1 [.int .i64 (k : Int), .int .i64 (q : Int), .int .i64 fk, .int .u64 (rl : Int), .int .i64 rk, .string rkey, .string rval, .int .u64 (pl : Int), .int .i64 pk, .int .i64 pa, .int .i64 pn, .string pkey, .int .i64 ec, .int .i64 eb, .int .i64 ef, .int .u32 (es : Int)] rfl rfl ((HJ1.out.alloc _).alloc _) rfl HONE.out (fun j u hu => cell_lit (w1.alloc _) _ _ j u _ (by simp) hu) (pre.length + 1) (by rw [hpl]) (by omega) (by unfold maxLen; omega) (by simp; omega) ?_; intro g3 c3 w3 hj3 hg3 hw3)
        have hb3 := (((HB1.out.alloc (by omega) _).alloc (by simp; omega) _).grown hg3 (by simp; omega) (fun g e => HJ1.out.blk_ge g e))
        go_roundw
        case rel => exact ⟨k + 1, pre ++ [(k, q, ⟨fk, ⟨rl, rk, rkey, rval⟩, ⟨pl, pk, pa, pn, pkey⟩, ⟨ec, eb, ef, es⟩⟩)], by omega, by go_num, by rw [List.map_append]; exact hj3, by rw [List.append_assoc, ← HPRE.out, HS1.out]; rfl, hb3⟩
        case measure => simp [intOf]; omega
      · have e1 : ((er : Int) == 0) = false := by rw [beq_eq_false_iff_ne]; omega
        have HS1 := hd (HST.out.2 her)
        clear HST her
        go_wp2_with fail
        go_roundw
        case rel => exact ⟨k + 1, pre, by omega, by go_num, HJ1.out.alloc _, by rw [← HPRE.out, HS1.out], HB1.out.alloc (by omega) _⟩
        case measure => simp [intOf]; omega
    · obtain rfl : k = l.length := by omega
      have HL2 : Hid (pre = locs 0 l) := hd (by
        have := HPRE.out
        rwa [List.drop_length, locs_nil, List.append_nil] at this)
      go_wp2_with fail
      go_ret
      exact ⟨_, rfl, by rw [← HL2.out]; exact HJ.out, HB.out⟩
end Vt
end Go.Proofs.Ytlddogigbodilaa
namespace Go.Proofs.Ytlddogigbodilaa
open Go.RowKit
namespace Vt
theorem num_setq (l : List Nat) (j q : Nat) (hj : j < l.length) : Crc.num (l.set j (l.getD j 0 ^^^ q)) = Crc.num l ^^^ q * 2 ^ (8 * j) := by
  induction l generalizing j with
  | nil => simp at hj
  | cons x l ih =>
    cases j with
    | zero => simp only [List.set_cons_zero, Crc.num, List.getD_cons_zero]; rw [Nat.xor_assoc, Nat.xor_assoc, Nat.xor_comm q]; simp
    | succ j =>
      simp only [List.set_cons_succ, Crc.num, List.getD_cons_succ]
      rw [ih j (by simpa using hj), Crc.xor_mul256, Nat.mul_assoc, show (256 : Nat) = 2 ^ 8 by rfl, ← Nat.pow_add, show 8 * j + 8 = 8 * (j + 1) by omega, Nat.xor_assoc]
theorem xor_byt {a d : Nat} (ha : a < 256) (hd : d < 256) : a ^^^ d < 256 := Nat.xor_lt_two_pow (n := 8) ha hd
theorem xor_ne {a d : Nat} (h : d ≠ 0) : a ^^^ d ≠ a := fun e => h (by
  have : a ^^^ (a ^^^ d) = 0 := by rw [e, Nat.xor_self]
  rwa [← Nat.xor_assoc, Nat.xor_self, Nat.zero_xor] at this)
theorem byt_set {l : List Nat} (h : Byt l) {o y : Nat} (hy : y < 256) : Byt (l.set o y) := fun x hx => by
  rcases List.mem_or_eq_of_mem_set hx with h1 | h1
  · exact h x h1
  · rw [h1]; exact hy
theorem en_w {f : Fr} (hw : f.Wf) (h : rf f = 0) : (wr (bd f)).length < 2097152 := by
  have h1 := (bd_len hw h).1
  have h2 := (wr_len (bd f)).2
  omega
/-- a byte behind the length is turned: no frame -/
theorem frame_hit {f : Fr} (hw : f.Wf) (h : rf f = 0) {o d : Nat} (h4 : 4 ≤ o) (ho : o < (en f).length) (h0 : d ≠ 0) (hd : d < 256) : (dcd ((en f).set o ((en f).getD o 0 ^^^ d))).2.2 ≠ 0 := by
  have hl := en_w hw h
  have hb := wr_byt (bd_byt h)
  have hlen := en_len f
  have key : (decF ((en f).set o ((en f).getD o 0 ^^^ d)) 0).2.2 ≠ 0 := by
    rw [en_eq] at ho hlen ⊢
    generalize wr (bd f) = W at hl hb ho hlen ⊢
    obtain ⟨H, hH⟩ : ∃ H, H = 167 :: dg 3 W.length := ⟨_, rfl⟩
    have hHl : H.length = 4 := by rw [hH]; simp [dg_len]
    obtain ⟨S, hS⟩ : ∃ S, Crc.go 0 (dg 3 W.length ++ W) = S := ⟨_, rfl⟩
    rw [hS]
    have e0 : ∀ X : List Nat, 167 :: (dg 3 W.length ++ X) = H ++ X := fun X => by rw [hH]; rfl
    rw [e0]
    by_cases hj : o - 4 < W.length
    · have eo : o = H.length + (o - 4) := by omega
      rw [eo, get_mid H W _ _ hj, set_mid H W _ _ _ hj, ← e0]
      exact hit_bad (q := d) (t := 8 * (o - 4)) hl (by rw [List.length_set]) hb (byt_set hb (xor_byt (getD_lt hb _) hd)) hS (num_setq W _ d hj) (by omega) (by omega) h0
    · rw [hS, e0] at hlen
      have hl2 : (dg 5 S).length = 5 := dg_len _ _
      rw [List.length_append, List.length_append, hl2] at hlen
      have hol : o < 4 + W.length + 5 := by rw [hS, e0, List.length_append, List.length_append, hl2] at ho; omega
      have eo : o = H.length + W.length + (o - 4 - W.length) := by omega
      rw [eo, get_end H W _ _, set_end H W _ _ _, ← e0]
      exact turned_bad hl hS (by omega) h0
  have hpos : 0 < ((en f).set o ((en f).getD o 0 ^^^ d)).length := by rw [List.length_set]; omega
  have := decF_at (k := 0) hpos
  rw [List.drop_zero] at this
  rw [show ((0 : Nat) : Int) = 0 from rfl] at this
  rw [← this]; exact key
/-- a frame's length stands in its second to fourth byte -/
theorem en_dig {f : Fr} (hw : f.Wf) (h : rf f = 0) : (en f).getD 1 0 = (wr (bd f)).length / 16384 ∧ (en f).getD 2 0 = (wr (bd f)).length / 128 % 128 ∧ (en f).getD 3 0 = (wr (bd f)).length % 128 := by
  rw [en_eq, dg3_eq _ (en_w hw h)]
  exact ⟨rfl, rfl, rfl⟩
theorem getD_take {l : List Nat} {q j : Nat} (h : j < q) : (l.take q).getD j 0 = l.getD j 0 := by
  rw [List.getD_eq_getElem?_getD, List.getElem?_take_of_lt h, List.getD_eq_getElem?_getD]
theorem getD_setn {l : List Nat} {o j y : Nat} (h : j ≠ o) : (l.set o y).getD j 0 = l.getD j 0 := by
  rw [List.getD_eq_getElem?_getD, List.getElem?_set_ne (by omega), List.getD_eq_getElem?_getD]
theorem getD_sets {l : List Nat} {o y : Nat} (h : o < l.length) : (l.set o y).getD o 0 = y := by
  rw [List.getD_eq_getElem?_getD, List.getElem?_set_self h]; rfl
theorem getD_dropq (l : List Nat) (q : Nat) : (l.drop q).getD 0 0 = l.getD q 0 := by
  rw [List.getD_eq_getElem?_getD, List.getElem?_drop, Nat.add_zero, List.getD_eq_getElem?_getD]
theorem one_turned {f : Fr} (hw : f.Wf) (h : rf f = 0) {o d : Nat} (ho : o < (en f).length) (h0 : d ≠ 0) (hd : d < 256) {B : List Nat} (hB : Byt B) (hB0 : B = [] ∨ B.getD 0 0 = 167) : ¬ Cl ((en f).set o ((en f).getD o 0 ^^^ d) ++ B) := by
  intro hc
  have hby : Byt (en f) := en_bytH h
  have hv := xor_byt (getD_lt hby o) hd
  have hvn := xor_ne (a := (en f).getD o 0) h0
  obtain ⟨v, hve⟩ : ∃ v, v = (en f).getD o 0 ^^^ d := ⟨_, rfl⟩
  have hfh : 4 ≤ o → (dcd ((en f).set o v)).2.2 ≠ 0 := fun h4 => by rw [hve]; exact frame_hit hw h h4 ho h0 hd
  rw [← hve] at hc hv hvn
  have hml : ((en f).set o v).length = (en f).length := List.length_set
  have hep := en_pos f
  have hlb : Byt ((en f).set o v ++ B) := byt_app (byt_set hby hv) hB
  obtain ⟨l, hl⟩ : ∃ l, l = (en f).set o v ++ B := ⟨_, rfl⟩
  have hll : l.length = (en f).length + B.length := by rw [hl, List.length_append, hml]
  have hat : ∀ j, j < (en f).length → l.getD j 0 = ((en f).set o v).getD j 0 := fun j hj => by
    rw [hl, List.getD_eq_getElem?_getD, List.getElem?_append_left (by omega), List.getD_eq_getElem?_getD]
  rw [← hl] at hc hlb
  have hok : (dcd l).2.2 = 0 := by
    apply Classical.byContradiction
    intro he
    exact gap hlb (pre := []) (at_ := 0) (by omega) rfl (by simp) (by rw [List.drop_zero]; exact he) hc
  obtain ⟨k1, k2, k3, k4, k5⟩ := en_dcd hlb hok
  have hlead := (dcd_lead hlb hok).1
  obtain ⟨k, q, er, hdd⟩ : ∃ k q er, dcd l = (k, q, er) := ⟨_, _, _, rfl⟩
  have hlo := locs_ok hlb 0 hok
  rw [hdd] at k1 k2 k3 k4 k5 hlo
  simp only at k1 k2 k3 k4 k5 hlo
  have hkp := en_pos k
  have hkl := en_len k
  have hfl := en_len f
  have hq : ∀ j, j < q → (en k).getD j 0 = l.getD j 0 := fun j hj => by rw [← k5, getD_take hj]
  -- the lead byte
  have ho0 : o ≠ 0 := by
    intro e
    subst e
    rw [hat 0 (by omega), getD_sets (by omega)] at hlead
    rw [en_head] at hvn
    exact hvn hlead
  obtain ⟨d1, d2, d3⟩ := en_dig k2 k1
  obtain ⟨f1, f2, f3⟩ := en_dig hw h
  have g1 := hq 1 (by omega)
  have g2 := hq 2 (by omega)
  have g3 := hq 3 (by omega)
  rw [hat 1 (by omega)] at g1
  rw [hat 2 (by omega)] at g2
  rw [hat 3 (by omega)] at g3
  have wk := en_w k2 k1
  have wf := en_w hw h
  by_cases h4 : 4 ≤ o
  · rw [getD_setn (by omega)] at g1 g2 g3
    have hN : (wr (bd k)).length = (wr (bd f)).length := by omega
    have hqm : q = (en f).length := by omega
    have hmk : (en f).set o v = en k := by
      rw [← k5, hl, hqm, ← hml, List.take_left]
    apply hfh h4
    rw [hmk]
    have := dcd_en k2 k1 []
    rw [List.append_nil] at this
    rw [this]
  · have hN : q ≠ (en f).length := by
      intro e
      have hN : (wr (bd k)).length = (wr (bd f)).length := by omega
      have : v = (en f).getD o 0 := by
        have hs := getD_sets (l := en f) (o := o) (y := v) ho
        obtain rfl | rfl | rfl : o = 1 ∨ o = 2 ∨ o = 3 := by omega
        · rw [← hs, ← g1, d1, f1, hN]
        · rw [← hs, ← g2, d2, f2, hN]
        · rw [← hs, ← g3, d3, f3, hN]
      exact hvn this
    rcases Nat.lt_or_gt_of_ne hN with hlt | hgt
    · -- a frame too short: behind it no lead byte stands
      have hno : (dcd (l.drop q)).2.2 ≠ 0 := by
        intro he
        have hld := (dcd_lead (byt_drop hlb q) he).1
        rw [getD_dropq, hat q hlt, getD_setn (by omega)] at hld
        exact en_no (by omega) hlt hld
      exact gap hlb (pre := [(0, q, k)]) (at_ := q) (by omega) (by rw [sml_cons, sml_nil]; rfl) (by rw [hlo]; simp) hno hc
    · -- one too long: it would hold the next one's lead byte
      have hBn : B ≠ [] := by intro e; rw [e] at hll; simp at hll; omega
      have hb0 : B.getD 0 0 = 167 := by rcases hB0 with e | e; exact absurd e hBn; exact e
      have hx : l.getD (en f).length 0 = 167 := by
        rw [hl, List.getD_eq_getElem?_getD, List.getElem?_append_right (by omega), hml, Nat.sub_self, ← List.getD_eq_getElem?_getD]; exact hb0
      have := hq (en f).length hgt
      rw [hx] at this
      exact en_no (by omega) (by omega) this
theorem ens_head {gs : List Fr} : ens gs = [] ∨ (ens gs).getD 0 0 = 167 := by
  cases gs with
  | nil => exact .inl rfl
  | cons f q =>
    refine .inr ?_
    rw [ens_cons, List.getD_eq_getElem?_getD, List.getElem?_append_left (by have := en_pos f; omega), ← List.getD_eq_getElem?_getD]
    exact en_head f
theorem turned_notcl {gs : List Fr} (h : Fit gs) : ∀ {p d : Nat}, p < (ens gs).length → d ≠ 0 → d < 256 → ¬ Cl ((ens gs).set p ((ens gs).getD p 0 ^^^ d)) := by
  induction gs with
  | nil => intro p d hp; simp [ens] at hp
  | cons f q ih =>
    intro p d hp h0 hd
    obtain ⟨hw, hf, hq⟩ := fit_cons h
    rw [ens_cons] at hp ⊢
    by_cases hlt : p < (en f).length
    · rw [List.set_append_left _ _ hlt, List.getD_eq_getElem?_getD, List.getElem?_append_left hlt, ← List.getD_eq_getElem?_getD]
      exact one_turned hw hf hlt h0 hd (ens_byt hq) ens_head
    · rw [List.length_append] at hp
      rw [List.set_append_right _ _ (by omega), List.getD_eq_getElem?_getD, List.getElem?_append_right (by omega), ← List.getD_eq_getElem?_getD]
      intro hc
      apply ih hq (p := p - (en f).length) (d := d) (by omega) h0 hd
      have hbz : Byt ((ens q).set (p - (en f).length) ((ens q).getD (p - (en f).length) 0 ^^^ d)) := byt_set (ens_byt hq) (xor_byt (getD_lt (ens_byt hq) _) hd)
      generalize (ens q).set (p - (en f).length) ((ens q).getD (p - (en f).length) 0 ^^^ d) = Z at hc hbz ⊢
      unfold Cl at hc ⊢
      rw [locs_en hw hf (byt_app (en_bytH hf) hbz) 0, sml_cons, List.length_append] at hc
      have := sml_shift Z (0 + (en f).length) 0
      rw [Nat.add_zero] at this
      rw [this] at hc
      simp only at hc
      omega
end Vt
end Go.Proofs.Ytlddogigbodilaa
namespace Go.Proofs.Ytlddogigbodilaa
open Go.RowKit Go.Shelf
namespace Vt
attribute [local go_sem] Oper.semAt_some
set_option maxRecDepth 100000 in
set_option maxHeartbeats 1000000 in
theorem written_is (f : Fr) (w : World) (hw : f.Wf) (h : rf f = 0) : Calls Try.prog 63 #[.agg (fv f)] w fun e w' => ∃ u, e = .returned u ∧ JB w' w.heap.size u (en f) ∧ Below w.heap.size w w' := by
  have HE : Hid (∀ w, Calls Try.prog 67 #[.agg (fv f)] w fun e w' => ∃ u, e = .returned (.tuple #[u, .int .i64 0]) ∧ JB w' w.heap.size u (en f) ∧ Below w.heap.size w w') := fun w => encF_all hw h w
  obtain ⟨ls, hls⟩ : ∃ ls, ls = en f := ⟨_, rfl⟩
  rw [← hls] at HE ⊢
  clear hls hw h
  obtain ⟨k, ⟨rl, rk, rkey, rval⟩, ⟨pl, pk, pa, pn, pkey⟩, ⟨ec, eb, ef, es⟩⟩ := f
  simp only [fv] at HE ⊢
  go_enter Try.func63, Try.ntmps63
  go_wp2_with fail
  refine Calls.mono (HE.out _) ?_
  rintro e w1 ⟨u, rfl, hj, hb⟩
  clear HE
  have HJ := hd hj
  have HB := hd hb
  clear hj hb
  go_wp2_with fail
  go_ret
  have h1 : Below w.heap.size w w1 := ((Below.refl _ _).alloc (Nat.le_refl _) _).trans (HB.out.mono (by simp))
  exact ⟨u, rfl, HJ.out.base (by simp), h1⟩
end Vt
end Go.Proofs.Ytlddogigbodilaa
