/-
  PROVED: for every text b, every place and every pattern the Go law CrcBursts answers true and changes nothing that came in: a run of up to 32 bits that is turned, the first of them at least, changes the sum. No condition.
-/
import Derived.Test.YtfodnbbpkonfpaaB0
import Derived.Test.YtfodnbbpkonfpaaL1
import Derived.Test.YtfodnbbpkonfpaaMath3
namespace Go.Proofs.Ytfodnbbpkonfpaa
open Go.ChangeShapes Go.WideShapes Go.ChangeAt Go.RowKit
namespace Bursts
theorem tmod2 (x k : Nat) : (((x : Nat) : Int) / 2 ^ k).tmod 2 = ((x / 2 ^ k % 2 : Nat) : Int) := by
  have e : ((x : Nat) : Int) / 2 ^ k = ((x / 2 ^ k : Nat) : Int) := by simp
  rw [e, Int.tmod_eq_emod_of_nonneg (Int.natCast_nonneg _)]; rfl
theorem xor_pow8 {x r : Nat} (hx : x < 256) (hr : r < 8) : bits .xor .u8 (x : Int) (2 ^ r % 256) = ((x ^^^ 2 ^ r : Nat) : Int) := by
  have h2 : 2 ^ r < 2 ^ 8 := Nat.pow_lt_pow_right (by decide) hr
  have e : (2 : Int) ^ r % 256 = ((2 ^ r : Nat) : Int) := by
    have : ((2 ^ r : Nat) : Int) = (2 : Int) ^ r := by simp
    rw [← this]
    generalize 2 ^ r = y at h2
    omega
  rw [e, bx8 hx h2]
theorem odd_step {q k : Nat} (hq : q < 2 ^ k) (ho : 0 < k → q % 2 = 1) : (q ^^^ 2 ^ k) % 2 = 1 := by
  rw [Crc.xor_mod_two]
  cases k with
  | zero => rw [show q = 0 by simpa using hq]; decide
  | succ k => rw [ho (by omega), Nat.pow_succ, Nat.mul_mod_left]; decide
set_option maxRecDepth 100000 in
set_option maxHeartbeats 400000 in
theorem walk0 (a : Option Addr) (c : Nat) (x p : Int) (w : World) :
    Calls Try.prog 3 #[.slice a 0 c, .int .i64 x, .int .u32 p] w fun e w' => e = .returned (.bool true) ∧ Below w.heap.size w w' := by
  go_enter Try.func3, Try.ntmps3
  go_wp2_with fail
  refine (known_any _).mono ?_
  rintro e w1 ⟨rfl, hb1⟩
  have HB1 := hd hb1
  clear hb1
  go_wp2
  go_ret
  exact ⟨rfl, HB1.out⟩
set_option maxRecDepth 100000 in
set_option maxHeartbeats 1000000 in
theorem walkB (b off c t p : Nat) (l : List Nat) (x : Int) (w : World) (hI : IsB w (.slice (some ⟨b, off, none⟩) l.length c) l) (h0 : 0 < l.length) (hc : l.length ≤ 140737488351232) (hp : p < 4294967296)
    (ht : t < 8 * l.length) (hx : x.tmod (8 * (l.length : Int)) = (t : Int) ∨ (x.tmod (8 * (l.length : Int)) = -(t : Int) ∧ 0 < t)) :
    Calls Try.prog 3 #[.slice (some ⟨b, off, none⟩) l.length c, .int .i64 x, .int .u32 (p : Int)] w fun e w' => e = .returned (.bool true) ∧ Below w.heap.size w w' := by
  have HI := hd hI
  have HR := hd hI.row
  clear hI
  obtain ⟨i0, hi, hz0, hz1, hz2⟩ := info_parts info_u8
  have hne : ((l.length : Int) == 0) = false := beq_eq_false_iff_ne.2 (by omega)
  have lP : p ||| 1 < 4294967296 := Nat.or_lt_two_pow (n := 32) hp (by decide)
  have eP : bits .or .u32 (p : Int) 1 = ((p ||| 1 : Nat) : Int) := u32_or_nat p 1 hp (by decide)
  have HO : Hid ((p ||| 1).testBit 0 = true) := by
    show (p ||| 1).testBit 0 = true
    rw [Nat.testBit_or]; simp
  generalize p ||| 1 = P at *
  have hlen : (bs l).length = l.length * 1 := by simp [bs]
  rcases hx with hx | ⟨hx, h0t⟩
  all_goals
    go_enter Try.func3, Try.ntmps3
    go_wp2_with fail
    refine (known_any _).mono ?_
    rintro e w1 ⟨rfl, hb1⟩
    have HB1 := hd hb1
    have HR1 := hd (HI.out.below hb1).row
    clear hb1
    go_wp2_with (at_builtin; refine wpList_append_lies _ rfl _ _ 22 rfl w1.heap.size 5 i0 (.int .u8 0) 1 1 Try.underlying22 hi hz0 hz1 hz2 rfl (by decide) (.slice none 0 0) 0 (bs []) rfl (own_nil _ _) ⟨b, off, none⟩ l.length c (bs l) rfl hlen (news_of_row HR1.out) (bs_one l) h0 (by unfold maxLen; omega) (by omega) (Nat.le_refl _) w1.heap.size rfl ?_; intro g cap w2 hown hgrow hat hlt)
    have hBuf : Buf w2 g cap l := buf_of_own HI.out.1 (by omega) hlt hown
    have hg : g = w1.heap.size := by simpa [Value.ownBlock] using hat
    have hbl : Below w1.heap.size w1 w2 := (Below.refl _ _).grown hgrow (Nat.le_refl _) (fun k hk => by simp [Value.ownBlock] at hk)
    have HBuf := hd hBuf
    have HG := hd hg
    have HBL := hd hbl
    clear hBuf hg hbl hown hgrow hat hlt hi hz0 hz1 hz2 hlen HR HR1 hx
    go_loopw [10] (fun s10 wr => ∃ (k q : Nat) (lt : List Nat), k ≤ 32 ∧ t + k ≤ 8 * l.length ∧ lt.length = l.length ∧ Crc.num lt = Crc.num l ^^^ q * 2 ^ t ∧ q < 2 ^ k ∧ (0 < k → q % 2 = 1) ∧ s10 = .int .i64 (k : Int) ∧ Buf wr g cap lt ∧ Below w1.heap.size w1 wr) (fun s10 _ => 32 - (intOf s10).toNat)
    case atStart => exact ⟨0, 0, l, by omega, by omega, rfl, by simp, by simp, by omega, rfl, HBuf.out, HBL.out⟩
    case round =>
      obtain ⟨k, q, lt, hk, htk, hlt, hnum, hq, hodd, rfl, hBuf, hbl⟩ := hrel
      have HB := hd hBuf
      have HL := hd hbl
      have HN := hd hnum
      have HQ := hd (And.intro hq hodd)
      clear hBuf hbl hnum hq hodd
      by_cases hin : k < 32 ∧ t + k < 8 * l.length
      · obtain ⟨h32, hb8⟩ := hin
        have eb := tmod2 P k
        by_cases hbit : P.testBit k
        · have hte : ((P / 2 ^ k % 2 : Nat) : Int) = 1 := by rw [Crc.bit_div, if_pos hbit]; rfl
          rw [hte] at eb
          have hj : (t + k) / 8 < lt.length := by omega
          have hcj := HB.out.cell hj
          have hfj := HB.out.2.2.2.2.2 _ hj
          have lx := getD_lt HB.out.2.2.2.1 ((t + k) / 8)
          have HS := hd (Crc.num_set lt ((t + k) / 8) ((t + k) % 8) hj)
          have HT : Hid (∀ y : Nat, y < 256 → Buf (wr.setCell ⟨g, (t + k) / 8, none⟩ (.int .u8 (y : Int))) g cap (lt.set ((t + k) / 8) y)) := fun y hy => HB.out.set hj hy
          have HV := hd (xor_pow8 (r := (t + k) % 8) lx (by omega))
          have ly : lt.getD ((t + k) / 8) 0 ^^^ 2 ^ ((t + k) % 8) < 256 := Crc.xor_lt8 lx (show 2 ^ ((t + k) % 8) < 2 ^ 8 from Nat.pow_lt_pow_right (by decide) (by omega))
          generalize lt.getD ((t + k) / 8) 0 = x0 at *
          clear hbit
          go_wp2
          go_region
          go_wp2
          go_roundw
          case rel =>
            refine ⟨k + 1, q ^^^ 2 ^ k, lt.set ((t + k) / 8) (x0 ^^^ 2 ^ ((t + k) % 8)), by omega, by omega, by rw [List.length_set]; exact hlt, ?_, ?_, ?_, by go_num, ?_, (HL.out.setCell (p := ⟨g, _, none⟩) (by rw [HG.out]; exact Nat.le_refl _) _).drew⟩
            · rw [HS.out, HN.out, Crc.xor_mul_pow, ← Nat.pow_add, Nat.xor_assoc, show 8 * ((t + k) / 8) + (t + k) % 8 = k + t by omega]
            · exact Nat.xor_lt_two_pow (Nat.lt_of_lt_of_le HQ.out.1 (Nat.pow_le_pow_right (by decide) (by omega))) (Nat.pow_lt_pow_right (by decide) (by omega))
            · intro _
              exact odd_step HQ.out.1 HQ.out.2
            · rw [HV.out]; exact (HT.out _ ly).drew
          case measure => simp [intOf]; omega
        · have hte : ((P / 2 ^ k % 2 : Nat) : Int) = 0 := by rw [Crc.bit_div, if_neg hbit]; rfl
          rw [hte] at eb
          have hk0 : 0 < k := by
            refine Nat.pos_of_ne_zero fun h => ?_
            subst h
            exact hbit HO.out
          clear hbit hte
          go_wp2
          go_roundw
          case rel => exact ⟨k + 1, q, lt, by omega, by omega, hlt, HN.out, Nat.lt_of_lt_of_le HQ.out.1 (Nat.pow_le_pow_right (by decide) (by omega)), fun _ => HQ.out.2 hk0, by go_num, HB.out, HL.out⟩
          case measure => simp [intOf]; omega
      · have hk0 : 0 < k := by omega
        have HD : Hid (Crc.go 0 l ≠ Crc.go 0 lt) := by
          refine Crc.burst (q := q) (t := t) hlt.symm HI.out.1 HB.out.2.2.2.1 HN.out (by omega) ?_ ?_
          · exact Nat.lt_of_lt_of_le HQ.out.1 (show 2 ^ k ≤ 2 ^ 32 from Nat.pow_le_pow_right (by decide) hk)
          · have := HQ.out.2 hk0; omega
        have hnq : (((Crc.go 0 l : Nat) : Int) != ((Crc.go 0 lt : Nat) : Int)) = true := by
          rw [bne_iff_ne]; intro h; exact HD.out (by omega)
        have HW : Hid (Below w.heap.size w wr) := HB1.out.trans (HL.out.mono HB1.out.size)
        have H1 := hd (sum_one wr wr.heap.size rfl _ l (HI.out.below HW.out))
        have HI2 := hd (HB.out.isB (n := l.length) hlt.symm)
        clear HN HQ
        by_cases h32 : k < 32
        · have h8 : ¬ t + k < 8 * l.length := by omega
          clear hin
          go_wp2_with fail
          refine Calls.mono H1.out ?_
          rintro e w5 ⟨rfl, hb5⟩
          have H2 := hd (sum_one w5 w5.heap.size rfl _ lt (HI2.out.below hb5))
          have HW5 : Hid (Below w.heap.size w w5) := HW.out.trans (hb5.mono HW.out.size)
          clear hb5
          go_wp2_with fail
          refine Calls.mono H2.out ?_
          rintro e w6 ⟨rfl, hb6⟩
          have HW6 : Hid (Below w.heap.size w w6) := HW5.out.trans (hb6.mono HW5.out.size)
          clear hb6
          go_wp2
          go_ret
          exact ⟨rfl, HW6.out⟩
        · obtain rfl : k = 32 := by omega
          clear hin
          go_wp2_with fail
          refine Calls.mono H1.out ?_
          rintro e w5 ⟨rfl, hb5⟩
          have H2 := hd (sum_one w5 w5.heap.size rfl _ lt (HI2.out.below hb5))
          have HW5 : Hid (Below w.heap.size w w5) := HW.out.trans (hb5.mono HW.out.size)
          clear hb5
          go_wp2_with fail
          refine Calls.mono H2.out ?_
          rintro e w6 ⟨rfl, hb6⟩
          have HW6 : Hid (Below w.heap.size w w6) := HW5.out.trans (hb6.mono HW5.out.size)
          clear hb6
          go_wp2
          go_ret
          exact ⟨rfl, HW6.out⟩
theorem walk (a0 : Option Addr) (len0 cap0 : Nat) (z0 : List Int) (a1 : Int) (a2 : Int) (w : World) (w0 : IsRow .u8 w a0 len0 cap0 z0) (_w1 : (Lit.int .i64 a1).wf = true) (w2 : (Lit.int .u32 a2).wf = true) (rc0 : cap0 ≤ 140737488351232) (hlc : len0 ≤ cap0) :
    Calls Try.prog 3 #[.slice a0 len0 cap0, .int .i64 a1, .int .u32 a2] w fun e w' => e = .returned (.bool true) ∧ Below w.heap.size w w' := by
  obtain ⟨l, hl, hI⟩ := w0.isB
  obtain ⟨p, rfl, hp⟩ := wf_u32 w2
  subst hl
  by_cases h0 : l.length = 0
  · rw [h0]; exact walk0 a0 cap0 a1 p w
  · have hI2 := hI
    obtain ⟨_, _, ⟨rfl, _⟩ | ⟨b, off, c, e, _⟩⟩ := hI
    · simp at h0
    · injection e with e1 e2 e3
      subst e1
      have hr := abs_tmod a1 (8 * l.length) (by omega)
      rw [show (((8 * l.length : Nat)) : Int) = 8 * (l.length : Int) by omega] at hr
      obtain ⟨t, ht, hx⟩ := hr
      exact walkB b off cap0 t p l a1 w hI2 (by omega) (by omega) hp ht hx
set_option linter.unusedVariables false
set_option maxRecDepth 100000 in
theorem lifted (os : Os) (started : os.Started) (H : Type) (enc : TypeId × Value → H) :
    ReturnsInHanded {} Try.checked os 3 .any (Rows.crcBurstsSpec.pre6 enc Try.prog Try.f3 Rows.crcBurstsRow.domain false) (Rows.crcBurstsSpec.post enc Try.prog Try.f3 false true false false) := by
  refine returnsInHanded_of_change_sized (C := Try.checked) own started (by kernel_rfl) Try.func3
    (ChangeSpec.witness6 (enc := enc) (C := Try.checked) false ⟨#[], #[.slice none 0 0, .int .i64 0, .int .u32 0], []⟩ 8 (by kernel_rfl) (by kernel_rfl) (by kernel_rfl) (by kernel_rfl)) ?_
  intro W base args ds gs before hval0 hW hcnd hsz0 _
  have hsz : (DataW.weightsEach Try.prog (Try.f3.params.toList ++ Rows.crcBurstsSpec.plain.varTypes Try.prog) (ds ++ gs)).all (· ≤ reachBytes) = true := hsz0
  clear hsz0
  have hval : ∀ (j : Nat) t v, Try.f3.params[j]? = some t → args[j]? = some v → Value.okWide Try.prog W .any base t v := hval0
  have hW' := hW
  obtain ⟨p, q, hA0, hV, rfl, hfz, hnd⟩ := hW
  have hA : DataW.TrodAll enc Try.prog W 0 (fun _ => true) true Try.f3.params.toList args.toList ds p := hA0
  rw [Try.params3] at hA hval hsz
  obtain ⟨v0, vs0, d0, ds0, p0, q0, hargs, rfl, rfl, h0, r0⟩ := trodAll_cons hA
  obtain ⟨v1, vs1, d1, ds1, p1, q1, rfl, rfl, rfl, h1, r1⟩ := trodAll_cons r0
  obtain ⟨v2, vs2, d2, ds2, p2, q2, rfl, rfl, rfl, h2, r2⟩ := trodAll_cons r1
  obtain ⟨rfl, rfl, rfl⟩ := trodAll_nil r2
  obtain rfl : args = #[v0, v1, v2] := by cases args; simp_all
  obtain ⟨rfl, rfl⟩ := trodVars_none hV
  obtain ⟨a0, len0, cap0, rfl⟩ := okWide_slice Try.underlying22 (hval 0 22 v0 rfl rfl)
  have k0 := h0
  have lt0 : ∀ x ∈ p0, x.block < W.heap.size := by obtain ⟨m, hm⟩ := k0; exact DataW.trod_lt m _ _ _ hm
  obtain ⟨z0, w0, rc0, hlc0⟩ : ∃ zs, IsRow .u8 W a0 len0 cap0 zs ∧ cap0 ≤ 140737488351232 ∧ len0 ≤ cap0 := by
    obtain ⟨fuel, hf⟩ := h0
    rcases open_ints Try.underlying22 Try.underlying5 (by kernel_rfl) hf with ⟨hcs, _⟩ | ⟨x, l, c, zs, hcs, _, hl, hm, hz, hx, hcell, hwz⟩
    · simp [Value.cells] at hcs
      obtain ⟨rfl, rfl, rfl⟩ := hcs
      exact ⟨[], .inl ⟨rfl, rfl, rfl, rfl⟩, by omega, by omega⟩
    · simp [Value.cells] at hcs
      obtain ⟨rfl, rfl, rfl⟩ := hcs
      have hz2 : zs.length = cap0 := by simpa using hz
      simp only [Prod.mk.injEq] at hx
      have hs := sized_slice hsz (j := 0) rfl (by rw [hx.1]; rfl) Try.underlying22
      rw [bytes_u8] at hs
      simp only [lits, List.length_map, List.length_take, List.length_drop, reachBytes] at hs
      exact ⟨zs, .inr ⟨_, rfl, hl, hm, hz2, hcell, hwz⟩, by omega, hl⟩
  obtain ⟨a1, rfl, rfl, rfl, w1⟩ := open_int Try.underlying3 (hval 1 3 v1 rfl rfl) h1
  obtain ⟨a2, rfl, rfl, rfl, w2⟩ := open_int Try.underlying23 (hval 2 23 v2 rfl rfl) h2
  clear hA0 hval0
  refine (walk a0 len0 cap0 z0 a1 a2 W w0 w1 w2 rc0 hlc0).mono fun e W' ⟨he, bel⟩ => ?_
  subst he
  exact ⟨_, rfl, _, _, _, [], _, [], hW', trodAll_mk1 (shut_bool Try.underlying4 _), (trodAll_cons_mk (Below.trod laidOut (by kernel_rfl) (of_decide_eq_true (by kernel_rfl)) k0 bel lt0) (trodAll_cons_mk (shut_int Try.underlying3 w1) (trodAll_cons_mk (shut_int Try.underlying23 w2) trodAll_mk0))), rfl, bel.frame _, fun h => by cases h⟩

theorem over : Rows.crcBurstsRow.holds Try.pinned (OpenSpec.ofChange Rows.crcBurstsSpec) :=
  OpenClaim.holds_of_wide 3 Try.f3 rfl rfl rfl rfl rfl rfl rfl ⟨rfl, rfl, rfl, rfl, rfl⟩ rfl rfl rfl rfl rfl (by kernel_rfl) Try.func3 (by kernel_rfl)
    (of_decide_eq_true (by kernel_rfl)) (by unfold Func.isWrapper; first | (rw [if_pos (by decide +kernel)]; kernel_rfl) | (rw [if_neg (by decide +kernel)]; exact ⟨rfl, rfl⟩))
    (fun os started H enc _ => lifted os started H enc)

end Bursts

theorem crcBursts_holds : Rows.CrcBurstsSaid := Bursts.over
#print axioms crcBursts_holds
end Go.Proofs.Ytfodnbbpkonfpaa
