/-
  PROVED: for every frame, every place, pattern, digit and byte the Go law FrameHit answers true and changes nothing that came in: a run of up to 32 bits that is turned within the escaped body, or a digit of the sum that is another one: it is a frame no more. No condition.
-/
import Derived.Test.YticcmeicpkgfnaaM3
namespace Go.Proofs.Yticcmeicpkgfnaa
open Go.ChangeShapes Go.WideShapes Go.ChangeAt Go.RowKit
namespace Fhi
open Vt
theorem xor_pow8 {x r : Nat} (hx : x < 256) (hr : r < 8) : bits .xor .u8 (x : Int) (2 ^ r % 256) = ((x ^^^ 2 ^ r : Nat) : Int) := by
  have h2 : 2 ^ r < 2 ^ 8 := Nat.pow_lt_pow_right (by decide) hr
  have e : (2 : Int) ^ r % 256 = ((2 ^ r : Nat) : Int) := by
    have : ((2 ^ r : Nat) : Int) = (2 : Int) ^ r := by simp
    rw [← this]
    generalize 2 ^ r = y at h2
    omega
  rw [e, bx8 hx h2]
theorem row_some {w : World} {base n c : Nat} {a : Option Addr} {l : List Nat} (h : JB w base (.slice a n c) l) (hn : 0 < n) : ∃ g, a = some ⟨g, 0, none⟩ ∧ base ≤ g := by
  rcases h.2.2 with ⟨q, _⟩ | ⟨g, cap, cur, q, hb, _⟩
  · injection q with q1 q2; omega
  · injection q with q1; exact ⟨g, q1, hb⟩
theorem dval_err {l : List Nat} (h : (decF l 0).2.2 ≠ 0) : ∃ er : Nat, er ≠ 0 ∧ dval (decF l 0) = .tuple #[.agg #[.int .i64 0, .int .u64 0, .int .i64 0, .string ⟨#[]⟩, .string ⟨#[]⟩, .int .u64 0, .int .i64 0, .int .i64 0, .int .i64 0, .string ⟨#[]⟩, .int .i64 0, .int .i64 0, .int .i64 0, .int .u32 0], .int .i64 0, .int .i64 (er : Int)] := by
  obtain ⟨h1, h2⟩ := decF_err h
  obtain ⟨f, n, er, hq⟩ : ∃ f n e, decF l 0 = (f, n, e) := ⟨_, _, _, rfl⟩
  rw [hq] at h1 h2 h ⊢
  simp only at h1 h2 h
  subst h1 h2
  exact ⟨er, h, rfl⟩
set_option maxRecDepth 100000 in
set_option maxHeartbeats 1000000 in
theorem walk_no (f : Fr) (x p z y : Int) (w : World) (h : rf f ≠ 0) :
    Calls Try.prog 6 #[.agg (fv f), .int .i64 x, .int .u32 p, .int .i64 z, .int .u8 y] w fun e w' => e = .returned (.bool true) ∧ Below w.heap.size w w' := by
  have HEN := hd (fun w => encF_no f w h)
  have q1 : (((rf f : Nat) : Int) != 0) = true := by simp; omega
  generalize rf f = code at *
  obtain ⟨k, ⟨rl, rk, rkey, rval⟩, ⟨pl, pk, pa, pn, pkey⟩, ⟨ec, eb, ef, es⟩⟩ := f
  simp only [fv] at *
  clear h
  have HX : Hid (Blk (w.alloc (.cells #[.int .i64 k, .int .u64 (rl : Int), .int .i64 rk, .string rkey, .string rval, .int .u64 (pl : Int), .int .i64 pk, .int .i64 pa, .int .i64 pn, .string pkey, .int .i64 ec, .int .i64 eb, .int .i64 ef, .int .u32 (es : Int)] 34)) w.heap.size 34 [.int .i64 k, .int .u64 (rl : Int), .int .i64 rk, .string rkey, .string rval, .int .u64 (pl : Int), .int .i64 pk, .int .i64 pa, .int .i64 pn, .string pkey, .int .i64 ec, .int .i64 eb, .int .i64 ef, .int .u32 (es : Int)]) := Blk.new w _ _
  go_enter Try.func6, Try.ntmps6
  go_wp2_with fail
  refine Calls.mono (known_is _) ?_
  rintro e w1 ⟨rfl, hb⟩
  have HB1 := hd (below_alloc1 hb)
  have HX1 := hd (HX.out.keep hb)
  clear hb HX
  have c0 := HX1.out.cell 0 _ rfl
  have c1 := HX1.out.cell 1 _ rfl
  have c2 := HX1.out.cell 2 _ rfl
  have c3 := HX1.out.cell 3 _ rfl
  have c4 := HX1.out.cell 4 _ rfl
  have c5 := HX1.out.cell 5 _ rfl
  have c6 := HX1.out.cell 6 _ rfl
  have c7 := HX1.out.cell 7 _ rfl
  have c8 := HX1.out.cell 8 _ rfl
  have c9 := HX1.out.cell 9 _ rfl
  have c10 := HX1.out.cell 10 _ rfl
  have c11 := HX1.out.cell 11 _ rfl
  have c12 := HX1.out.cell 12 _ rfl
  have c13 := HX1.out.cell 13 _ rfl
  go_wp2_with fail
  refine Calls.mono (HEN.out w1) ?_
  rintro e w2 ⟨rfl, hb⟩
  have HB2 : Hid (Below w.heap.size w w2) := HB1.out.trans (hb.mono HB1.out.size)
  clear hb HEN HB1
  go_wp2_with fail
  go_ret
  exact ⟨rfl, HB2.out⟩
set_option maxRecDepth 100000 in
set_option maxHeartbeats 2000000 in
theorem walk_pp (f : Fr) (x z : Int) (t d p y : Nat) (w : World) (hw : f.Wf) (h : rf f = 0) (ht : t < 8 * (Vt.wr (bd f)).length) (hd5 : d < 5) (hp : p < 4294967296) (hy : y < 256) (hx : x.tmod (8 * ((Vt.wr (bd f)).length : Int)) = (t : Int)) (hz : z.tmod 5 = (d : Int)) :
    Calls Try.prog 6 #[.agg (fv f), .int .i64 x, .int .u32 (p : Int), .int .i64 z, .int .u8 (y : Int)] w fun e w' => e = .returned (.bool true) ∧ Below w.heap.size w w' := by
  have HEN := hd (encF_all hw h)
  have hbb := bd_len hw h
  have hwl := wr_len (bd f)
  have hWb : Byt (Vt.wr (bd f)) := wr_byt (bd_byt h)
  have HEQ := hd (en_eq f)
  clear hw h
  obtain ⟨W, hW⟩ : ∃ W, W = Vt.wr (bd f) := ⟨_, rfl⟩
  rw [← hW] at HEQ hwl hWb ht hx
  obtain ⟨S, hSe⟩ : ∃ S, S = Crc.go 0 (dg 3 W.length ++ W) := ⟨_, rfl⟩
  rw [← hSe] at HEQ
  obtain ⟨N, hN⟩ : ∃ N, N = W.length := ⟨_, rfl⟩
  rw [← hN] at HEQ hwl ht hx
  have hN1 : 1 ≤ N ∧ N ≤ 4400 := by omega
  have HHIT := hd (fun (W' : List Nat) (q t : Nat) h1 h2 h3 h4 h5 h6 => hit_bad (W := W) (W' := W') (S := S) (q := q) (t := t) (by rw [← hN]; omega) h1 hWb h2 hSe.symm h3 h4 h5 h6)
  have HTUR := hd (fun (y : Nat) hy => turned_bad (W := W) (S := S) (d := d) (y := y) (by rw [← hN]; omega) hSe.symm hd5 hy)
  rw [← hN] at HHIT HTUR
  obtain ⟨H4, hH⟩ : ∃ H4, H4 = 167 :: dg 3 N := ⟨_, rfl⟩
  have HH4 : Hid (H4.length = 4) := by show H4.length = 4; rw [hH]; simp [dg_len]
  have HEQ2 : Hid (en f = H4 ++ (W ++ dg 5 S)) := by show en f = _; rw [HEQ.out, hH]; rfl
  have HHB : Hid (Byt H4) := by
    show Byt H4
    rw [hH]
    intro a ha
    rcases List.mem_cons.1 ha with rfl | ha
    · omega
    · exact dg_byt _ _ a ha
  have HT5 := hd (dg_len 5 S)
  have HTB := hd (dg_byt 5 S)
  have HHIT2 : Hid (∀ (W' : List Nat) (q t : Nat), W'.length = W.length → Byt W' → Crc.num W' = Crc.num W ^^^ q * 2 ^ t → t ≤ 8 * N → q < 4294967296 → q ≠ 0 → (decF (H4 ++ (W' ++ dg 5 S)) 0).2.2 ≠ 0) := by
    intro W' q t h1 h2 h3 h4 h5 h6
    have := HHIT.out W' q t (h1.trans hN.symm) h2 h3 h4 h5 h6
    rw [hH]; exact this
  have HTUR2 : Hid (∀ y : Nat, y ≠ 0 → (decF (H4 ++ (W ++ (dg 5 S).set d ((dg 5 S).getD d 0 ^^^ y))) 0).2.2 ≠ 0) := by
    intro y hy
    have := HTUR.out y hy
    rw [hH]; exact this
  have HWB := hd hWb
  have HNN := hd hN
  clear hH HEQ HHIT HTUR hWb hwl hbb hN hW hSe
  rw [HEQ2.out] at HEN
  clear HEQ2
  generalize dg 5 S = T at *
  have HEL : Hid ((H4 ++ (W ++ T)).length = N + 9) := by show (H4 ++ (W ++ T)).length = N + 9; rw [List.length_append, List.length_append, HH4.out, HT5.out, ← HNN.out]; omega
  have lP : p ||| 1 < 4294967296 := Nat.or_lt_two_pow (n := 32) hp (by decide)
  have eP : bits .or .u32 (p : Int) 1 = ((p ||| 1 : Nat) : Int) := u32_or_nat p 1 hp (by decide)
  have HO : Hid ((p ||| 1).testBit 0 = true) := by
    show (p ||| 1).testBit 0 = true
    rw [Nat.testBit_or]; simp
  generalize p ||| 1 = P at *
  obtain ⟨k, ⟨rl, rk, rkey, rval⟩, ⟨pl, pk, pa, pn, pkey⟩, ⟨ec, eb, ef, es⟩⟩ := f
  simp only [fv] at *
  have HX : Hid (Blk (w.alloc (.cells #[.int .i64 k, .int .u64 (rl : Int), .int .i64 rk, .string rkey, .string rval, .int .u64 (pl : Int), .int .i64 pk, .int .i64 pa, .int .i64 pn, .string pkey, .int .i64 ec, .int .i64 eb, .int .i64 ef, .int .u32 (es : Int)] 34)) w.heap.size 34 [.int .i64 k, .int .u64 (rl : Int), .int .i64 rk, .string rkey, .string rval, .int .u64 (pl : Int), .int .i64 pk, .int .i64 pa, .int .i64 pn, .string pkey, .int .i64 ec, .int .i64 eb, .int .i64 ef, .int .u32 (es : Int)]) := Blk.new w _ _
  go_enter Try.func6, Try.ntmps6
  go_wp2_with fail
  refine Calls.mono (known_is _) ?_
  rintro e w1 ⟨rfl, hb⟩
  have HB1 := hd (below_alloc1 hb)
  have HX1 := hd (HX.out.keep hb)
  clear hb HX
  have c0 := HX1.out.cell 0 _ rfl
  have c1 := HX1.out.cell 1 _ rfl
  have c2 := HX1.out.cell 2 _ rfl
  have c3 := HX1.out.cell 3 _ rfl
  have c4 := HX1.out.cell 4 _ rfl
  have c5 := HX1.out.cell 5 _ rfl
  have c6 := HX1.out.cell 6 _ rfl
  have c7 := HX1.out.cell 7 _ rfl
  have c8 := HX1.out.cell 8 _ rfl
  have c9 := HX1.out.cell 9 _ rfl
  have c10 := HX1.out.cell 10 _ rfl
  have c11 := HX1.out.cell 11 _ rfl
  have c12 := HX1.out.cell 12 _ rfl
  have c13 := HX1.out.cell 13 _ rfl
  go_wp2_with fail
  refine Calls.mono (HEN.out w1) ?_
  rintro e w2 ⟨u, rfl, hj, hb⟩
  have HB2 : Hid (Below w.heap.size w w2) := HB1.out.trans (hb.mono HB1.out.size)
  have HI2 := hd hj.isB
  obtain ⟨ua, uc, rfl, hcap⟩ := hj.shape
  rw [HEL.out] at HI2 hcap ⊢
  clear hb hj HEN HB1 HX1 c0 c1 c2 c3 c4 c5 c6 c7 c8 c9 c10 c11 c12 c13
  go_wp2_with (at_builtin; refine wpList_append_jb _ rfl _ _ rfl w2.heap.size _ _ [] _ rfl rfl (jb_nil _ _) HI2.out (N + 9) (by rw [HEL.out]; simp) _ (List.nil_append _) (by omega) (Nat.le_refl _) ?_; intro a3 c3 w3 hJ3 hg3 hc3)
  have HG3 := hd ((jb_nil w2 w2.heap.size).grown (Below.refl _ _) (Nat.le_refl _) (Nat.le_refl _) hg3)
  obtain ⟨g, hg, hgb⟩ : ∃ g, a3 = some ⟨g, 0, none⟩ ∧ w2.heap.size ≤ g := by
    rcases hJ3.2.2 with ⟨q, _⟩ | ⟨g, cap, cur, q, hb, _⟩
    · injection q with q1 q2; omega
    · injection q with q1; exact ⟨g, q1, hb⟩
  subst hg
  have HBuf := hd hJ3.buf
  have HGB := hd hgb
  clear hJ3 hg3 hgb
  go_loopw [16] (fun s16 wr => ∃ (j q : Nat) (lt : List Nat), j ≤ 32 ∧ t + j ≤ 8 * N ∧ lt.length = W.length ∧ Crc.num lt = Crc.num W ^^^ q * 2 ^ t ∧ q < 2 ^ j ∧ (0 < j → q % 2 = 1) ∧ s16 = .int .i64 (j : Int) ∧ Buf wr g c3 (H4 ++ (lt ++ T)) ∧ Below w2.heap.size w2 wr) (fun s16 _ => 32 - (intOf s16).toNat)
  case atStart => exact ⟨0, 0, W, by omega, by omega, rfl, by simp, by simp, by omega, rfl, HBuf.out, HG3.out⟩
  case round =>
    clear HBuf HG3
    obtain ⟨j, q, lt, hj, htj, hlt, hnum, hq, hodd, rfl, hBuf, hbl⟩ := hrel
    have HB := hd hBuf
    have HL := hd hbl
    have HN := hd hnum
    have HQ := hd (And.intro hq hodd)
    have HLT := hd hlt
    clear hBuf hbl hnum hq hodd hlt
    have HFL : Hid ((H4 ++ (lt ++ T)).length = N + 9) := by show (H4 ++ (lt ++ T)).length = N + 9; rw [List.length_append, List.length_append, HH4.out, HT5.out, HLT.out, ← HNN.out]; omega
    have HLB : Hid (Byt lt) := by
      show Byt lt
      intro a ha
      exact HB.out.2.2.2.1 a (by simp [ha])
    by_cases hin : j < 32 ∧ t + j < 8 * N
    · obtain ⟨h32, hb8⟩ := hin
      have eb := ftmod2 P j
      by_cases hbit : P.testBit j
      · have hte : ((P / 2 ^ j % 2 : Nat) : Int) = 1 := by rw [Crc.bit_div, if_pos hbit]; rfl
        rw [hte] at eb
        have hjl : (t + j) / 8 < lt.length := by rw [HLT.out, ← HNN.out]; omega
        have hcj := HB.out.cell (j := 4 + (t + j) / 8) (by rw [HFL.out]; omega)
        have hfj := HB.out.2.2.2.2.2 (4 + (t + j) / 8) (by rw [HFL.out]; omega)
        have hge := get_mid H4 lt T ((t + j) / 8) hjl
        rw [HH4.out] at hge
        rw [hge] at hcj
        have lx := getD_lt HLB.out ((t + j) / 8)
        have HS := hd (Crc.num_set lt ((t + j) / 8) ((t + j) % 8) hjl)
        have HT : Hid (∀ y : Nat, y < 256 → Buf (wr.setCell ⟨g, 4 + (t + j) / 8, none⟩ (.int .u8 (y : Int))) g c3 (H4 ++ (lt.set ((t + j) / 8) y ++ T))) := by
          intro y hy
          have h1 := HB.out.set (j := 4 + (t + j) / 8) (y := y) (by rw [HFL.out]; omega) hy
          have h2 := set_mid H4 lt T ((t + j) / 8) y hjl
          rw [HH4.out] at h2
          rw [h2] at h1
          exact h1
        have HV := hd (xor_pow8 (r := (t + j) % 8) lx (by omega))
        have ly : lt.getD ((t + j) / 8) 0 ^^^ 2 ^ ((t + j) % 8) < 256 := Crc.xor_lt8 lx (show 2 ^ ((t + j) % 8) < 2 ^ 8 from Nat.pow_lt_pow_right (by decide) (by omega))
        generalize lt.getD ((t + j) / 8) 0 = x0 at *
        clear hbit hge hjl
        go_wp2
        go_region
        go_wp2
        go_roundw
        case rel =>
          refine ⟨j + 1, q ^^^ 2 ^ j, lt.set ((t + j) / 8) (x0 ^^^ 2 ^ ((t + j) % 8)), by omega, by omega, by rw [List.length_set]; exact HLT.out, ?_, ?_, ?_, by go_num, ?_, (HL.out.setCell (p := ⟨g, _, none⟩) HGB.out _).drew⟩
          · rw [HS.out, HN.out, Crc.xor_mul_pow, ← Nat.pow_add, Nat.xor_assoc, show 8 * ((t + j) / 8) + (t + j) % 8 = j + t by omega]
          · exact Nat.xor_lt_two_pow (Nat.lt_of_lt_of_le HQ.out.1 (Nat.pow_le_pow_right (by decide) (by omega))) (Nat.pow_lt_pow_right (by decide) (by omega))
          · intro _
            exact fodd_step HQ.out.1 HQ.out.2
          · rw [HV.out]; exact HT.out _ ly
        case measure => simp [intOf]; omega
      · have hte : ((P / 2 ^ j % 2 : Nat) : Int) = 0 := by rw [Crc.bit_div, if_neg hbit]; rfl
        rw [hte] at eb
        have hj0 : 0 < j := by
          refine Nat.pos_of_ne_zero fun h => ?_
          subst h
          exact hbit HO.out
        clear hbit hte
        go_wp2
        go_roundw
        case rel => exact ⟨j + 1, q, lt, by omega, by omega, HLT.out, HN.out, Nat.lt_of_lt_of_le HQ.out.1 (Nat.pow_le_pow_right (by decide) (by omega)), fun _ => HQ.out.2 hj0, by go_num, HB.out, HL.out⟩
        case measure => simp [intOf]; omega
    · have hj0 : 0 < j := by omega
      have hbad := HHIT2.out lt q t HLT.out HLB.out HN.out (by omega) (Nat.lt_of_lt_of_le HQ.out.1 (show 2 ^ j ≤ 2 ^ 32 from Nat.pow_le_pow_right (by decide) hj)) (by have := HQ.out.2 hj0; omega)
      obtain ⟨er, her, hdv⟩ := dval_err hbad
      have q1 : (((er : Nat) : Int) != 0) = true := by simp; omega
      have HD1 := hd (decode_all _ _ 0 wr (HB.out.isB HFL.out.symm))
      rw [hdv] at HD1
      have HIu := hd (HI2.out.below HL.out)
      have hL2 := HL.out.size
      clear hbad hdv HN HQ HB HHIT2 her
      obtain ⟨Y, hY, hY2⟩ : ∃ Y : Nat, Y = 1 + y % 255 ∧ Y < 256 := ⟨_, rfl, by omega⟩
      have hbadT := HTUR2.out Y (by omega)
      obtain ⟨er2, her2, hdv2⟩ := dval_err hbadT
      have q2 : (((er2 : Nat) : Int) != 0) = true := by simp; omega
      have HDV2 := hd hdv2
      have HYE := hd hY
      clear hbadT hdv2 her2 HTUR2 hY
      by_cases h32 : j < 32
      · have hcond : ¬ t + j < 8 * N := by omega
        go_wp2_with fail
        refine Calls.mono HD1.out ?_
        rintro e w5 ⟨rfl, hb⟩
        have HB5 : Hid (Below w2.heap.size w2 w5) := HL.out.trans (hb.mono hL2)
        have HI5 := hd (HI2.out.below HB5.out)
        have hs5 := HB5.out.size
        clear hb HD1
        have HI5a := hd (HI5.out.below ((Below.refl _ _).alloc (Nat.le_refl _) (.cells #[.int .i64 0, .int .u64 0, .int .i64 0, .string ⟨#[]⟩, .string ⟨#[]⟩, .int .u64 0, .int .i64 0, .int .i64 0, .int .i64 0, .string ⟨#[]⟩, .int .i64 0, .int .i64 0, .int .i64 0, .int .u32 0] 34)))
        have HB5a : Hid (Below w2.heap.size w2 (w5.alloc (.cells #[.int .i64 0, .int .u64 0, .int .i64 0, .string ⟨#[]⟩, .string ⟨#[]⟩, .int .u64 0, .int .i64 0, .int .i64 0, .int .i64 0, .string ⟨#[]⟩, .int .i64 0, .int .i64 0, .int .i64 0, .int .u32 0] 34))) := HB5.out.alloc hs5 _
        have hge := get_end H4 W T d
        rw [HH4.out, ← HNN.out, show 4 + N + d = N + 4 + d by omega] at hge
        have hse := fun y => set_end H4 W T d y
        rw [HH4.out, ← HNN.out, show 4 + N + d = N + 4 + d by omega] at hse
        have HGE := hd hge
        have HSE := hd hse
        clear hge hse
        have htv := getD_lt HTB.out d
        obtain ⟨tv, htve⟩ : ∃ tv, tv = T.getD d 0 := ⟨_, rfl⟩
        rw [← htve] at HGE HDV2 htv
        clear htve
        have hxv : bits .xor .u8 (tv : Int) (1 + (y : Int) % 255) = ((tv ^^^ Y : Nat) : Int) := by
          have e : (1 : Int) + (y : Int) % 255 = (Y : Int) := by have := HYE.out; omega
          rw [e, bx8 htv hY2]
        have hxl : tv ^^^ Y < 256 := Crc.xor_lt8 htv hY2
        go_wp2_with (at_builtin; refine wpList_append_jb _ rfl _ _ rfl w2.heap.size _ _ [] _ rfl rfl (jb_nil _ _) HI5a.out (N + 9) (by rw [HEL.out]; simp) _ (List.nil_append _) (by omega) (by rw [World.size_alloc]; omega) ?_; intro a6 c6 w6 hJ6 hg6 hc6; have HG6 := hd ((jb_nil (w5.alloc (.cells #[.int .i64 0, .int .u64 0, .int .i64 0, .string ⟨#[]⟩, .string ⟨#[]⟩, .int .u64 0, .int .i64 0, .int .i64 0, .int .i64 0, .string ⟨#[]⟩, .int .i64 0, .int .i64 0, .int .i64 0, .int .u32 0] 34)) w2.heap.size).grown HB5a.out (Nat.le_refl _) (by rw [World.size_alloc]; omega) hg6); obtain ⟨g6, hg6e, hgb6⟩ := row_some hJ6 (by omega); subst hg6e; have HB6 := hd hJ6.buf; have HGB6 := hd hgb6; have hcd := HB6.out.cell (j := N + 4 + d) (by rw [HEL.out]; omega); have hfd := HB6.out.2.2.2.2.2 (N + 4 + d) (by rw [HEL.out]; omega); rw [HGE.out] at hcd; clear hJ6 hg6 hgb6)
        have HB7 : Hid (Buf (w6.setCell ⟨g6, N + 4 + d, none⟩ (.int .u8 ((tv ^^^ Y : Nat) : Int))) g6 c6 (H4 ++ (W ++ T.set d (tv ^^^ Y)))) := by
          have h1 := HB6.out.set (j := N + 4 + d) (y := tv ^^^ Y) (by rw [HEL.out]; omega) hxl
          rw [HSE.out] at h1
          exact h1
        have HB7w : Hid (Below w.heap.size w (w6.setCell ⟨g6, N + 4 + d, none⟩ (.int .u8 ((tv ^^^ Y : Nat) : Int)))) := HB2.out.trans ((HG6.out.setCell (p := ⟨g6, N + 4 + d, none⟩) HGB6.out _).mono HB2.out.size)
        have HEL7 : Hid (N + 9 = (H4 ++ (W ++ T.set d (tv ^^^ Y))).length) := by
          show N + 9 = _
          rw [← HEL.out]; simp
        have HDD2 := hd (decode_all _ _ 0 _ (HB7.out.isB HEL7.out))
        rw [HDV2.out] at HDD2
        clear HDV2 HB7 HB6
        refine Calls.mono HDD2.out ?_
        rintro e w8 ⟨rfl, hb⟩
        have HB8 : Hid (Below w.heap.size w w8) := HB7w.out.trans (hb.mono HB7w.out.size)
        clear hb HDD2
        go_wp2_with fail
        go_ret
        exact ⟨rfl, HB8.out.alloc HB8.out.size _⟩
      · obtain rfl : j = 32 := by omega
        go_wp2_with fail
        refine Calls.mono HD1.out ?_
        rintro e w5 ⟨rfl, hb⟩
        have HB5 : Hid (Below w2.heap.size w2 w5) := HL.out.trans (hb.mono hL2)
        have HI5 := hd (HI2.out.below HB5.out)
        have hs5 := HB5.out.size
        clear hb HD1
        have HI5a := hd (HI5.out.below ((Below.refl _ _).alloc (Nat.le_refl _) (.cells #[.int .i64 0, .int .u64 0, .int .i64 0, .string ⟨#[]⟩, .string ⟨#[]⟩, .int .u64 0, .int .i64 0, .int .i64 0, .int .i64 0, .string ⟨#[]⟩, .int .i64 0, .int .i64 0, .int .i64 0, .int .u32 0] 34)))
        have HB5a : Hid (Below w2.heap.size w2 (w5.alloc (.cells #[.int .i64 0, .int .u64 0, .int .i64 0, .string ⟨#[]⟩, .string ⟨#[]⟩, .int .u64 0, .int .i64 0, .int .i64 0, .int .i64 0, .string ⟨#[]⟩, .int .i64 0, .int .i64 0, .int .i64 0, .int .u32 0] 34))) := HB5.out.alloc hs5 _
        have hge := get_end H4 W T d
        rw [HH4.out, ← HNN.out, show 4 + N + d = N + 4 + d by omega] at hge
        have hse := fun y => set_end H4 W T d y
        rw [HH4.out, ← HNN.out, show 4 + N + d = N + 4 + d by omega] at hse
        have HGE := hd hge
        have HSE := hd hse
        clear hge hse
        have htv := getD_lt HTB.out d
        obtain ⟨tv, htve⟩ : ∃ tv, tv = T.getD d 0 := ⟨_, rfl⟩
        rw [← htve] at HGE HDV2 htv
        clear htve
        have hxv : bits .xor .u8 (tv : Int) (1 + (y : Int) % 255) = ((tv ^^^ Y : Nat) : Int) := by
          have e : (1 : Int) + (y : Int) % 255 = (Y : Int) := by have := HYE.out; omega
          rw [e, bx8 htv hY2]
        have hxl : tv ^^^ Y < 256 := Crc.xor_lt8 htv hY2
        go_wp2_with (at_builtin; refine wpList_append_jb _ rfl _ _ rfl w2.heap.size _ _ [] _ rfl rfl (jb_nil _ _) HI5a.out (N + 9) (by rw [HEL.out]; simp) _ (List.nil_append _) (by omega) (by rw [World.size_alloc]; omega) ?_; intro a6 c6 w6 hJ6 hg6 hc6; have HG6 := hd ((jb_nil (w5.alloc (.cells #[.int .i64 0, .int .u64 0, .int .i64 0, .string ⟨#[]⟩, .string ⟨#[]⟩, .int .u64 0, .int .i64 0, .int .i64 0, .int .i64 0, .string ⟨#[]⟩, .int .i64 0, .int .i64 0, .int .i64 0, .int .u32 0] 34)) w2.heap.size).grown HB5a.out (Nat.le_refl _) (by rw [World.size_alloc]; omega) hg6); obtain ⟨g6, hg6e, hgb6⟩ := row_some hJ6 (by omega); subst hg6e; have HB6 := hd hJ6.buf; have HGB6 := hd hgb6; have hcd := HB6.out.cell (j := N + 4 + d) (by rw [HEL.out]; omega); have hfd := HB6.out.2.2.2.2.2 (N + 4 + d) (by rw [HEL.out]; omega); rw [HGE.out] at hcd; clear hJ6 hg6 hgb6)
        have HB7 : Hid (Buf (w6.setCell ⟨g6, N + 4 + d, none⟩ (.int .u8 ((tv ^^^ Y : Nat) : Int))) g6 c6 (H4 ++ (W ++ T.set d (tv ^^^ Y)))) := by
          have h1 := HB6.out.set (j := N + 4 + d) (y := tv ^^^ Y) (by rw [HEL.out]; omega) hxl
          rw [HSE.out] at h1
          exact h1
        have HB7w : Hid (Below w.heap.size w (w6.setCell ⟨g6, N + 4 + d, none⟩ (.int .u8 ((tv ^^^ Y : Nat) : Int)))) := HB2.out.trans ((HG6.out.setCell (p := ⟨g6, N + 4 + d, none⟩) HGB6.out _).mono HB2.out.size)
        have HEL7 : Hid (N + 9 = (H4 ++ (W ++ T.set d (tv ^^^ Y))).length) := by
          show N + 9 = _
          rw [← HEL.out]; simp
        have HDD2 := hd (decode_all _ _ 0 _ (HB7.out.isB HEL7.out))
        rw [HDV2.out] at HDD2
        clear HDV2 HB7 HB6
        refine Calls.mono HDD2.out ?_
        rintro e w8 ⟨rfl, hb⟩
        have HB8 : Hid (Below w.heap.size w w8) := HB7w.out.trans (hb.mono HB7w.out.size)
        clear hb HDD2
        go_wp2_with fail
        go_ret
        exact ⟨rfl, HB8.out.alloc HB8.out.size _⟩
set_option maxRecDepth 100000 in
set_option maxHeartbeats 2000000 in
theorem walk_pn (f : Fr) (x z : Int) (t d p y : Nat) (w : World) (hw : f.Wf) (h : rf f = 0) (ht : t < 8 * (Vt.wr (bd f)).length) (hd5 : d < 5) (hp : p < 4294967296) (hy : y < 256) (hx : x.tmod (8 * ((Vt.wr (bd f)).length : Int)) = (t : Int)) (hz : z.tmod 5 = -(d : Int)) (h0d : 0 < d) :
    Calls Try.prog 6 #[.agg (fv f), .int .i64 x, .int .u32 (p : Int), .int .i64 z, .int .u8 (y : Int)] w fun e w' => e = .returned (.bool true) ∧ Below w.heap.size w w' := by
  have HEN := hd (encF_all hw h)
  have hbb := bd_len hw h
  have hwl := wr_len (bd f)
  have hWb : Byt (Vt.wr (bd f)) := wr_byt (bd_byt h)
  have HEQ := hd (en_eq f)
  clear hw h
  obtain ⟨W, hW⟩ : ∃ W, W = Vt.wr (bd f) := ⟨_, rfl⟩
  rw [← hW] at HEQ hwl hWb ht hx
  obtain ⟨S, hSe⟩ : ∃ S, S = Crc.go 0 (dg 3 W.length ++ W) := ⟨_, rfl⟩
  rw [← hSe] at HEQ
  obtain ⟨N, hN⟩ : ∃ N, N = W.length := ⟨_, rfl⟩
  rw [← hN] at HEQ hwl ht hx
  have hN1 : 1 ≤ N ∧ N ≤ 4400 := by omega
  have HHIT := hd (fun (W' : List Nat) (q t : Nat) h1 h2 h3 h4 h5 h6 => hit_bad (W := W) (W' := W') (S := S) (q := q) (t := t) (by rw [← hN]; omega) h1 hWb h2 hSe.symm h3 h4 h5 h6)
  have HTUR := hd (fun (y : Nat) hy => turned_bad (W := W) (S := S) (d := d) (y := y) (by rw [← hN]; omega) hSe.symm hd5 hy)
  rw [← hN] at HHIT HTUR
  obtain ⟨H4, hH⟩ : ∃ H4, H4 = 167 :: dg 3 N := ⟨_, rfl⟩
  have HH4 : Hid (H4.length = 4) := by show H4.length = 4; rw [hH]; simp [dg_len]
  have HEQ2 : Hid (en f = H4 ++ (W ++ dg 5 S)) := by show en f = _; rw [HEQ.out, hH]; rfl
  have HHB : Hid (Byt H4) := by
    show Byt H4
    rw [hH]
    intro a ha
    rcases List.mem_cons.1 ha with rfl | ha
    · omega
    · exact dg_byt _ _ a ha
  have HT5 := hd (dg_len 5 S)
  have HTB := hd (dg_byt 5 S)
  have HHIT2 : Hid (∀ (W' : List Nat) (q t : Nat), W'.length = W.length → Byt W' → Crc.num W' = Crc.num W ^^^ q * 2 ^ t → t ≤ 8 * N → q < 4294967296 → q ≠ 0 → (decF (H4 ++ (W' ++ dg 5 S)) 0).2.2 ≠ 0) := by
    intro W' q t h1 h2 h3 h4 h5 h6
    have := HHIT.out W' q t (h1.trans hN.symm) h2 h3 h4 h5 h6
    rw [hH]; exact this
  have HTUR2 : Hid (∀ y : Nat, y ≠ 0 → (decF (H4 ++ (W ++ (dg 5 S).set d ((dg 5 S).getD d 0 ^^^ y))) 0).2.2 ≠ 0) := by
    intro y hy
    have := HTUR.out y hy
    rw [hH]; exact this
  have HWB := hd hWb
  have HNN := hd hN
  clear hH HEQ HHIT HTUR hWb hwl hbb hN hW hSe
  rw [HEQ2.out] at HEN
  clear HEQ2
  generalize dg 5 S = T at *
  have HEL : Hid ((H4 ++ (W ++ T)).length = N + 9) := by show (H4 ++ (W ++ T)).length = N + 9; rw [List.length_append, List.length_append, HH4.out, HT5.out, ← HNN.out]; omega
  have lP : p ||| 1 < 4294967296 := Nat.or_lt_two_pow (n := 32) hp (by decide)
  have eP : bits .or .u32 (p : Int) 1 = ((p ||| 1 : Nat) : Int) := u32_or_nat p 1 hp (by decide)
  have HO : Hid ((p ||| 1).testBit 0 = true) := by
    show (p ||| 1).testBit 0 = true
    rw [Nat.testBit_or]; simp
  generalize p ||| 1 = P at *
  obtain ⟨k, ⟨rl, rk, rkey, rval⟩, ⟨pl, pk, pa, pn, pkey⟩, ⟨ec, eb, ef, es⟩⟩ := f
  simp only [fv] at *
  have HX : Hid (Blk (w.alloc (.cells #[.int .i64 k, .int .u64 (rl : Int), .int .i64 rk, .string rkey, .string rval, .int .u64 (pl : Int), .int .i64 pk, .int .i64 pa, .int .i64 pn, .string pkey, .int .i64 ec, .int .i64 eb, .int .i64 ef, .int .u32 (es : Int)] 34)) w.heap.size 34 [.int .i64 k, .int .u64 (rl : Int), .int .i64 rk, .string rkey, .string rval, .int .u64 (pl : Int), .int .i64 pk, .int .i64 pa, .int .i64 pn, .string pkey, .int .i64 ec, .int .i64 eb, .int .i64 ef, .int .u32 (es : Int)]) := Blk.new w _ _
  go_enter Try.func6, Try.ntmps6
  go_wp2_with fail
  refine Calls.mono (known_is _) ?_
  rintro e w1 ⟨rfl, hb⟩
  have HB1 := hd (below_alloc1 hb)
  have HX1 := hd (HX.out.keep hb)
  clear hb HX
  have c0 := HX1.out.cell 0 _ rfl
  have c1 := HX1.out.cell 1 _ rfl
  have c2 := HX1.out.cell 2 _ rfl
  have c3 := HX1.out.cell 3 _ rfl
  have c4 := HX1.out.cell 4 _ rfl
  have c5 := HX1.out.cell 5 _ rfl
  have c6 := HX1.out.cell 6 _ rfl
  have c7 := HX1.out.cell 7 _ rfl
  have c8 := HX1.out.cell 8 _ rfl
  have c9 := HX1.out.cell 9 _ rfl
  have c10 := HX1.out.cell 10 _ rfl
  have c11 := HX1.out.cell 11 _ rfl
  have c12 := HX1.out.cell 12 _ rfl
  have c13 := HX1.out.cell 13 _ rfl
  go_wp2_with fail
  refine Calls.mono (HEN.out w1) ?_
  rintro e w2 ⟨u, rfl, hj, hb⟩
  have HB2 : Hid (Below w.heap.size w w2) := HB1.out.trans (hb.mono HB1.out.size)
  have HI2 := hd hj.isB
  obtain ⟨ua, uc, rfl, hcap⟩ := hj.shape
  rw [HEL.out] at HI2 hcap ⊢
  clear hb hj HEN HB1 HX1 c0 c1 c2 c3 c4 c5 c6 c7 c8 c9 c10 c11 c12 c13
  go_wp2_with (at_builtin; refine wpList_append_jb _ rfl _ _ rfl w2.heap.size _ _ [] _ rfl rfl (jb_nil _ _) HI2.out (N + 9) (by rw [HEL.out]; simp) _ (List.nil_append _) (by omega) (Nat.le_refl _) ?_; intro a3 c3 w3 hJ3 hg3 hc3)
  have HG3 := hd ((jb_nil w2 w2.heap.size).grown (Below.refl _ _) (Nat.le_refl _) (Nat.le_refl _) hg3)
  obtain ⟨g, hg, hgb⟩ : ∃ g, a3 = some ⟨g, 0, none⟩ ∧ w2.heap.size ≤ g := by
    rcases hJ3.2.2 with ⟨q, _⟩ | ⟨g, cap, cur, q, hb, _⟩
    · injection q with q1 q2; omega
    · injection q with q1; exact ⟨g, q1, hb⟩
  subst hg
  have HBuf := hd hJ3.buf
  have HGB := hd hgb
  clear hJ3 hg3 hgb
  go_loopw [16] (fun s16 wr => ∃ (j q : Nat) (lt : List Nat), j ≤ 32 ∧ t + j ≤ 8 * N ∧ lt.length = W.length ∧ Crc.num lt = Crc.num W ^^^ q * 2 ^ t ∧ q < 2 ^ j ∧ (0 < j → q % 2 = 1) ∧ s16 = .int .i64 (j : Int) ∧ Buf wr g c3 (H4 ++ (lt ++ T)) ∧ Below w2.heap.size w2 wr) (fun s16 _ => 32 - (intOf s16).toNat)
  case atStart => exact ⟨0, 0, W, by omega, by omega, rfl, by simp, by simp, by omega, rfl, HBuf.out, HG3.out⟩
  case round =>
    clear HBuf HG3
    obtain ⟨j, q, lt, hj, htj, hlt, hnum, hq, hodd, rfl, hBuf, hbl⟩ := hrel
    have HB := hd hBuf
    have HL := hd hbl
    have HN := hd hnum
    have HQ := hd (And.intro hq hodd)
    have HLT := hd hlt
    clear hBuf hbl hnum hq hodd hlt
    have HFL : Hid ((H4 ++ (lt ++ T)).length = N + 9) := by show (H4 ++ (lt ++ T)).length = N + 9; rw [List.length_append, List.length_append, HH4.out, HT5.out, HLT.out, ← HNN.out]; omega
    have HLB : Hid (Byt lt) := by
      show Byt lt
      intro a ha
      exact HB.out.2.2.2.1 a (by simp [ha])
    by_cases hin : j < 32 ∧ t + j < 8 * N
    · obtain ⟨h32, hb8⟩ := hin
      have eb := ftmod2 P j
      by_cases hbit : P.testBit j
      · have hte : ((P / 2 ^ j % 2 : Nat) : Int) = 1 := by rw [Crc.bit_div, if_pos hbit]; rfl
        rw [hte] at eb
        have hjl : (t + j) / 8 < lt.length := by rw [HLT.out, ← HNN.out]; omega
        have hcj := HB.out.cell (j := 4 + (t + j) / 8) (by rw [HFL.out]; omega)
        have hfj := HB.out.2.2.2.2.2 (4 + (t + j) / 8) (by rw [HFL.out]; omega)
        have hge := get_mid H4 lt T ((t + j) / 8) hjl
        rw [HH4.out] at hge
        rw [hge] at hcj
        have lx := getD_lt HLB.out ((t + j) / 8)
        have HS := hd (Crc.num_set lt ((t + j) / 8) ((t + j) % 8) hjl)
        have HT : Hid (∀ y : Nat, y < 256 → Buf (wr.setCell ⟨g, 4 + (t + j) / 8, none⟩ (.int .u8 (y : Int))) g c3 (H4 ++ (lt.set ((t + j) / 8) y ++ T))) := by
          intro y hy
          have h1 := HB.out.set (j := 4 + (t + j) / 8) (y := y) (by rw [HFL.out]; omega) hy
          have h2 := set_mid H4 lt T ((t + j) / 8) y hjl
          rw [HH4.out] at h2
          rw [h2] at h1
          exact h1
        have HV := hd (xor_pow8 (r := (t + j) % 8) lx (by omega))
        have ly : lt.getD ((t + j) / 8) 0 ^^^ 2 ^ ((t + j) % 8) < 256 := Crc.xor_lt8 lx (show 2 ^ ((t + j) % 8) < 2 ^ 8 from Nat.pow_lt_pow_right (by decide) (by omega))
        generalize lt.getD ((t + j) / 8) 0 = x0 at *
        clear hbit hge hjl
        go_wp2
        go_region
        go_wp2
        go_roundw
        case rel =>
          refine ⟨j + 1, q ^^^ 2 ^ j, lt.set ((t + j) / 8) (x0 ^^^ 2 ^ ((t + j) % 8)), by omega, by omega, by rw [List.length_set]; exact HLT.out, ?_, ?_, ?_, by go_num, ?_, (HL.out.setCell (p := ⟨g, _, none⟩) HGB.out _).drew⟩
          · rw [HS.out, HN.out, Crc.xor_mul_pow, ← Nat.pow_add, Nat.xor_assoc, show 8 * ((t + j) / 8) + (t + j) % 8 = j + t by omega]
          · exact Nat.xor_lt_two_pow (Nat.lt_of_lt_of_le HQ.out.1 (Nat.pow_le_pow_right (by decide) (by omega))) (Nat.pow_lt_pow_right (by decide) (by omega))
          · intro _
            exact fodd_step HQ.out.1 HQ.out.2
          · rw [HV.out]; exact HT.out _ ly
        case measure => simp [intOf]; omega
      · have hte : ((P / 2 ^ j % 2 : Nat) : Int) = 0 := by rw [Crc.bit_div, if_neg hbit]; rfl
        rw [hte] at eb
        have hj0 : 0 < j := by
          refine Nat.pos_of_ne_zero fun h => ?_
          subst h
          exact hbit HO.out
        clear hbit hte
        go_wp2
        go_roundw
        case rel => exact ⟨j + 1, q, lt, by omega, by omega, HLT.out, HN.out, Nat.lt_of_lt_of_le HQ.out.1 (Nat.pow_le_pow_right (by decide) (by omega)), fun _ => HQ.out.2 hj0, by go_num, HB.out, HL.out⟩
        case measure => simp [intOf]; omega
    · have hj0 : 0 < j := by omega
      have hbad := HHIT2.out lt q t HLT.out HLB.out HN.out (by omega) (Nat.lt_of_lt_of_le HQ.out.1 (show 2 ^ j ≤ 2 ^ 32 from Nat.pow_le_pow_right (by decide) hj)) (by have := HQ.out.2 hj0; omega)
      obtain ⟨er, her, hdv⟩ := dval_err hbad
      have q1 : (((er : Nat) : Int) != 0) = true := by simp; omega
      have HD1 := hd (decode_all _ _ 0 wr (HB.out.isB HFL.out.symm))
      rw [hdv] at HD1
      have HIu := hd (HI2.out.below HL.out)
      have hL2 := HL.out.size
      clear hbad hdv HN HQ HB HHIT2 her
      obtain ⟨Y, hY, hY2⟩ : ∃ Y : Nat, Y = 1 + y % 255 ∧ Y < 256 := ⟨_, rfl, by omega⟩
      have hbadT := HTUR2.out Y (by omega)
      obtain ⟨er2, her2, hdv2⟩ := dval_err hbadT
      have q2 : (((er2 : Nat) : Int) != 0) = true := by simp; omega
      have HDV2 := hd hdv2
      have HYE := hd hY
      clear hbadT hdv2 her2 HTUR2 hY
      by_cases h32 : j < 32
      · have hcond : ¬ t + j < 8 * N := by omega
        go_wp2_with fail
        refine Calls.mono HD1.out ?_
        rintro e w5 ⟨rfl, hb⟩
        have HB5 : Hid (Below w2.heap.size w2 w5) := HL.out.trans (hb.mono hL2)
        have HI5 := hd (HI2.out.below HB5.out)
        have hs5 := HB5.out.size
        clear hb HD1
        have HI5a := hd (HI5.out.below ((Below.refl _ _).alloc (Nat.le_refl _) (.cells #[.int .i64 0, .int .u64 0, .int .i64 0, .string ⟨#[]⟩, .string ⟨#[]⟩, .int .u64 0, .int .i64 0, .int .i64 0, .int .i64 0, .string ⟨#[]⟩, .int .i64 0, .int .i64 0, .int .i64 0, .int .u32 0] 34)))
        have HB5a : Hid (Below w2.heap.size w2 (w5.alloc (.cells #[.int .i64 0, .int .u64 0, .int .i64 0, .string ⟨#[]⟩, .string ⟨#[]⟩, .int .u64 0, .int .i64 0, .int .i64 0, .int .i64 0, .string ⟨#[]⟩, .int .i64 0, .int .i64 0, .int .i64 0, .int .u32 0] 34))) := HB5.out.alloc hs5 _
        have hge := get_end H4 W T d
        rw [HH4.out, ← HNN.out, show 4 + N + d = N + 4 + d by omega] at hge
        have hse := fun y => set_end H4 W T d y
        rw [HH4.out, ← HNN.out, show 4 + N + d = N + 4 + d by omega] at hse
        have HGE := hd hge
        have HSE := hd hse
        clear hge hse
        have htv := getD_lt HTB.out d
        obtain ⟨tv, htve⟩ : ∃ tv, tv = T.getD d 0 := ⟨_, rfl⟩
        rw [← htve] at HGE HDV2 htv
        clear htve
        have hxv : bits .xor .u8 (tv : Int) (1 + (y : Int) % 255) = ((tv ^^^ Y : Nat) : Int) := by
          have e : (1 : Int) + (y : Int) % 255 = (Y : Int) := by have := HYE.out; omega
          rw [e, bx8 htv hY2]
        have hxl : tv ^^^ Y < 256 := Crc.xor_lt8 htv hY2
        go_wp2_with (at_builtin; refine wpList_append_jb _ rfl _ _ rfl w2.heap.size _ _ [] _ rfl rfl (jb_nil _ _) HI5a.out (N + 9) (by rw [HEL.out]; simp) _ (List.nil_append _) (by omega) (by rw [World.size_alloc]; omega) ?_; intro a6 c6 w6 hJ6 hg6 hc6; have HG6 := hd ((jb_nil (w5.alloc (.cells #[.int .i64 0, .int .u64 0, .int .i64 0, .string ⟨#[]⟩, .string ⟨#[]⟩, .int .u64 0, .int .i64 0, .int .i64 0, .int .i64 0, .string ⟨#[]⟩, .int .i64 0, .int .i64 0, .int .i64 0, .int .u32 0] 34)) w2.heap.size).grown HB5a.out (Nat.le_refl _) (by rw [World.size_alloc]; omega) hg6); obtain ⟨g6, hg6e, hgb6⟩ := row_some hJ6 (by omega); subst hg6e; have HB6 := hd hJ6.buf; have HGB6 := hd hgb6; have hcd := HB6.out.cell (j := N + 4 + d) (by rw [HEL.out]; omega); have hfd := HB6.out.2.2.2.2.2 (N + 4 + d) (by rw [HEL.out]; omega); rw [HGE.out] at hcd; clear hJ6 hg6 hgb6)
        have HB7 : Hid (Buf (w6.setCell ⟨g6, N + 4 + d, none⟩ (.int .u8 ((tv ^^^ Y : Nat) : Int))) g6 c6 (H4 ++ (W ++ T.set d (tv ^^^ Y)))) := by
          have h1 := HB6.out.set (j := N + 4 + d) (y := tv ^^^ Y) (by rw [HEL.out]; omega) hxl
          rw [HSE.out] at h1
          exact h1
        have HB7w : Hid (Below w.heap.size w (w6.setCell ⟨g6, N + 4 + d, none⟩ (.int .u8 ((tv ^^^ Y : Nat) : Int)))) := HB2.out.trans ((HG6.out.setCell (p := ⟨g6, N + 4 + d, none⟩) HGB6.out _).mono HB2.out.size)
        have HEL7 : Hid (N + 9 = (H4 ++ (W ++ T.set d (tv ^^^ Y))).length) := by
          show N + 9 = _
          rw [← HEL.out]; simp
        have HDD2 := hd (decode_all _ _ 0 _ (HB7.out.isB HEL7.out))
        rw [HDV2.out] at HDD2
        clear HDV2 HB7 HB6
        refine Calls.mono HDD2.out ?_
        rintro e w8 ⟨rfl, hb⟩
        have HB8 : Hid (Below w.heap.size w w8) := HB7w.out.trans (hb.mono HB7w.out.size)
        clear hb HDD2
        go_wp2_with fail
        go_ret
        exact ⟨rfl, HB8.out.alloc HB8.out.size _⟩
      · obtain rfl : j = 32 := by omega
        go_wp2_with fail
        refine Calls.mono HD1.out ?_
        rintro e w5 ⟨rfl, hb⟩
        have HB5 : Hid (Below w2.heap.size w2 w5) := HL.out.trans (hb.mono hL2)
        have HI5 := hd (HI2.out.below HB5.out)
        have hs5 := HB5.out.size
        clear hb HD1
        have HI5a := hd (HI5.out.below ((Below.refl _ _).alloc (Nat.le_refl _) (.cells #[.int .i64 0, .int .u64 0, .int .i64 0, .string ⟨#[]⟩, .string ⟨#[]⟩, .int .u64 0, .int .i64 0, .int .i64 0, .int .i64 0, .string ⟨#[]⟩, .int .i64 0, .int .i64 0, .int .i64 0, .int .u32 0] 34)))
        have HB5a : Hid (Below w2.heap.size w2 (w5.alloc (.cells #[.int .i64 0, .int .u64 0, .int .i64 0, .string ⟨#[]⟩, .string ⟨#[]⟩, .int .u64 0, .int .i64 0, .int .i64 0, .int .i64 0, .string ⟨#[]⟩, .int .i64 0, .int .i64 0, .int .i64 0, .int .u32 0] 34))) := HB5.out.alloc hs5 _
        have hge := get_end H4 W T d
        rw [HH4.out, ← HNN.out, show 4 + N + d = N + 4 + d by omega] at hge
        have hse := fun y => set_end H4 W T d y
        rw [HH4.out, ← HNN.out, show 4 + N + d = N + 4 + d by omega] at hse
        have HGE := hd hge
        have HSE := hd hse
        clear hge hse
        have htv := getD_lt HTB.out d
        obtain ⟨tv, htve⟩ : ∃ tv, tv = T.getD d 0 := ⟨_, rfl⟩
        rw [← htve] at HGE HDV2 htv
        clear htve
        have hxv : bits .xor .u8 (tv : Int) (1 + (y : Int) % 255) = ((tv ^^^ Y : Nat) : Int) := by
          have e : (1 : Int) + (y : Int) % 255 = (Y : Int) := by have := HYE.out; omega
          rw [e, bx8 htv hY2]
        have hxl : tv ^^^ Y < 256 := Crc.xor_lt8 htv hY2
        go_wp2_with (at_builtin; refine wpList_append_jb _ rfl _ _ rfl w2.heap.size _ _ [] _ rfl rfl (jb_nil _ _) HI5a.out (N + 9) (by rw [HEL.out]; simp) _ (List.nil_append _) (by omega) (by rw [World.size_alloc]; omega) ?_; intro a6 c6 w6 hJ6 hg6 hc6; have HG6 := hd ((jb_nil (w5.alloc (.cells #[.int .i64 0, .int .u64 0, .int .i64 0, .string ⟨#[]⟩, .string ⟨#[]⟩, .int .u64 0, .int .i64 0, .int .i64 0, .int .i64 0, .string ⟨#[]⟩, .int .i64 0, .int .i64 0, .int .i64 0, .int .u32 0] 34)) w2.heap.size).grown HB5a.out (Nat.le_refl _) (by rw [World.size_alloc]; omega) hg6); obtain ⟨g6, hg6e, hgb6⟩ := row_some hJ6 (by omega); subst hg6e; have HB6 := hd hJ6.buf; have HGB6 := hd hgb6; have hcd := HB6.out.cell (j := N + 4 + d) (by rw [HEL.out]; omega); have hfd := HB6.out.2.2.2.2.2 (N + 4 + d) (by rw [HEL.out]; omega); rw [HGE.out] at hcd; clear hJ6 hg6 hgb6)
        have HB7 : Hid (Buf (w6.setCell ⟨g6, N + 4 + d, none⟩ (.int .u8 ((tv ^^^ Y : Nat) : Int))) g6 c6 (H4 ++ (W ++ T.set d (tv ^^^ Y)))) := by
          have h1 := HB6.out.set (j := N + 4 + d) (y := tv ^^^ Y) (by rw [HEL.out]; omega) hxl
          rw [HSE.out] at h1
          exact h1
        have HB7w : Hid (Below w.heap.size w (w6.setCell ⟨g6, N + 4 + d, none⟩ (.int .u8 ((tv ^^^ Y : Nat) : Int)))) := HB2.out.trans ((HG6.out.setCell (p := ⟨g6, N + 4 + d, none⟩) HGB6.out _).mono HB2.out.size)
        have HEL7 : Hid (N + 9 = (H4 ++ (W ++ T.set d (tv ^^^ Y))).length) := by
          show N + 9 = _
          rw [← HEL.out]; simp
        have HDD2 := hd (decode_all _ _ 0 _ (HB7.out.isB HEL7.out))
        rw [HDV2.out] at HDD2
        clear HDV2 HB7 HB6
        refine Calls.mono HDD2.out ?_
        rintro e w8 ⟨rfl, hb⟩
        have HB8 : Hid (Below w.heap.size w w8) := HB7w.out.trans (hb.mono HB7w.out.size)
        clear hb HDD2
        go_wp2_with fail
        go_ret
        exact ⟨rfl, HB8.out.alloc HB8.out.size _⟩
set_option maxRecDepth 100000 in
set_option maxHeartbeats 2000000 in
theorem walk_np (f : Fr) (x z : Int) (t d p y : Nat) (w : World) (hw : f.Wf) (h : rf f = 0) (ht : t < 8 * (Vt.wr (bd f)).length) (hd5 : d < 5) (hp : p < 4294967296) (hy : y < 256) (hx : x.tmod (8 * ((Vt.wr (bd f)).length : Int)) = -(t : Int)) (h0t : 0 < t) (hz : z.tmod 5 = (d : Int)) :
    Calls Try.prog 6 #[.agg (fv f), .int .i64 x, .int .u32 (p : Int), .int .i64 z, .int .u8 (y : Int)] w fun e w' => e = .returned (.bool true) ∧ Below w.heap.size w w' := by
  have HEN := hd (encF_all hw h)
  have hbb := bd_len hw h
  have hwl := wr_len (bd f)
  have hWb : Byt (Vt.wr (bd f)) := wr_byt (bd_byt h)
  have HEQ := hd (en_eq f)
  clear hw h
  obtain ⟨W, hW⟩ : ∃ W, W = Vt.wr (bd f) := ⟨_, rfl⟩
  rw [← hW] at HEQ hwl hWb ht hx
  obtain ⟨S, hSe⟩ : ∃ S, S = Crc.go 0 (dg 3 W.length ++ W) := ⟨_, rfl⟩
  rw [← hSe] at HEQ
  obtain ⟨N, hN⟩ : ∃ N, N = W.length := ⟨_, rfl⟩
  rw [← hN] at HEQ hwl ht hx
  have hN1 : 1 ≤ N ∧ N ≤ 4400 := by omega
  have HHIT := hd (fun (W' : List Nat) (q t : Nat) h1 h2 h3 h4 h5 h6 => hit_bad (W := W) (W' := W') (S := S) (q := q) (t := t) (by rw [← hN]; omega) h1 hWb h2 hSe.symm h3 h4 h5 h6)
  have HTUR := hd (fun (y : Nat) hy => turned_bad (W := W) (S := S) (d := d) (y := y) (by rw [← hN]; omega) hSe.symm hd5 hy)
  rw [← hN] at HHIT HTUR
  obtain ⟨H4, hH⟩ : ∃ H4, H4 = 167 :: dg 3 N := ⟨_, rfl⟩
  have HH4 : Hid (H4.length = 4) := by show H4.length = 4; rw [hH]; simp [dg_len]
  have HEQ2 : Hid (en f = H4 ++ (W ++ dg 5 S)) := by show en f = _; rw [HEQ.out, hH]; rfl
  have HHB : Hid (Byt H4) := by
    show Byt H4
    rw [hH]
    intro a ha
    rcases List.mem_cons.1 ha with rfl | ha
    · omega
    · exact dg_byt _ _ a ha
  have HT5 := hd (dg_len 5 S)
  have HTB := hd (dg_byt 5 S)
  have HHIT2 : Hid (∀ (W' : List Nat) (q t : Nat), W'.length = W.length → Byt W' → Crc.num W' = Crc.num W ^^^ q * 2 ^ t → t ≤ 8 * N → q < 4294967296 → q ≠ 0 → (decF (H4 ++ (W' ++ dg 5 S)) 0).2.2 ≠ 0) := by
    intro W' q t h1 h2 h3 h4 h5 h6
    have := HHIT.out W' q t (h1.trans hN.symm) h2 h3 h4 h5 h6
    rw [hH]; exact this
  have HTUR2 : Hid (∀ y : Nat, y ≠ 0 → (decF (H4 ++ (W ++ (dg 5 S).set d ((dg 5 S).getD d 0 ^^^ y))) 0).2.2 ≠ 0) := by
    intro y hy
    have := HTUR.out y hy
    rw [hH]; exact this
  have HWB := hd hWb
  have HNN := hd hN
  clear hH HEQ HHIT HTUR hWb hwl hbb hN hW hSe
  rw [HEQ2.out] at HEN
  clear HEQ2
  generalize dg 5 S = T at *
  have HEL : Hid ((H4 ++ (W ++ T)).length = N + 9) := by show (H4 ++ (W ++ T)).length = N + 9; rw [List.length_append, List.length_append, HH4.out, HT5.out, ← HNN.out]; omega
  have lP : p ||| 1 < 4294967296 := Nat.or_lt_two_pow (n := 32) hp (by decide)
  have eP : bits .or .u32 (p : Int) 1 = ((p ||| 1 : Nat) : Int) := u32_or_nat p 1 hp (by decide)
  have HO : Hid ((p ||| 1).testBit 0 = true) := by
    show (p ||| 1).testBit 0 = true
    rw [Nat.testBit_or]; simp
  generalize p ||| 1 = P at *
  obtain ⟨k, ⟨rl, rk, rkey, rval⟩, ⟨pl, pk, pa, pn, pkey⟩, ⟨ec, eb, ef, es⟩⟩ := f
  simp only [fv] at *
  have HX : Hid (Blk (w.alloc (.cells #[.int .i64 k, .int .u64 (rl : Int), .int .i64 rk, .string rkey, .string rval, .int .u64 (pl : Int), .int .i64 pk, .int .i64 pa, .int .i64 pn, .string pkey, .int .i64 ec, .int .i64 eb, .int .i64 ef, .int .u32 (es : Int)] 34)) w.heap.size 34 [.int .i64 k, .int .u64 (rl : Int), .int .i64 rk, .string rkey, .string rval, .int .u64 (pl : Int), .int .i64 pk, .int .i64 pa, .int .i64 pn, .string pkey, .int .i64 ec, .int .i64 eb, .int .i64 ef, .int .u32 (es : Int)]) := Blk.new w _ _
  go_enter Try.func6, Try.ntmps6
  go_wp2_with fail
  refine Calls.mono (known_is _) ?_
  rintro e w1 ⟨rfl, hb⟩
  have HB1 := hd (below_alloc1 hb)
  have HX1 := hd (HX.out.keep hb)
  clear hb HX
  have c0 := HX1.out.cell 0 _ rfl
  have c1 := HX1.out.cell 1 _ rfl
  have c2 := HX1.out.cell 2 _ rfl
  have c3 := HX1.out.cell 3 _ rfl
  have c4 := HX1.out.cell 4 _ rfl
  have c5 := HX1.out.cell 5 _ rfl
  have c6 := HX1.out.cell 6 _ rfl
  have c7 := HX1.out.cell 7 _ rfl
  have c8 := HX1.out.cell 8 _ rfl
  have c9 := HX1.out.cell 9 _ rfl
  have c10 := HX1.out.cell 10 _ rfl
  have c11 := HX1.out.cell 11 _ rfl
  have c12 := HX1.out.cell 12 _ rfl
  have c13 := HX1.out.cell 13 _ rfl
  go_wp2_with fail
  refine Calls.mono (HEN.out w1) ?_
  rintro e w2 ⟨u, rfl, hj, hb⟩
  have HB2 : Hid (Below w.heap.size w w2) := HB1.out.trans (hb.mono HB1.out.size)
  have HI2 := hd hj.isB
  obtain ⟨ua, uc, rfl, hcap⟩ := hj.shape
  rw [HEL.out] at HI2 hcap ⊢
  clear hb hj HEN HB1 HX1 c0 c1 c2 c3 c4 c5 c6 c7 c8 c9 c10 c11 c12 c13
  go_wp2_with (at_builtin; refine wpList_append_jb _ rfl _ _ rfl w2.heap.size _ _ [] _ rfl rfl (jb_nil _ _) HI2.out (N + 9) (by rw [HEL.out]; simp) _ (List.nil_append _) (by omega) (Nat.le_refl _) ?_; intro a3 c3 w3 hJ3 hg3 hc3)
  have HG3 := hd ((jb_nil w2 w2.heap.size).grown (Below.refl _ _) (Nat.le_refl _) (Nat.le_refl _) hg3)
  obtain ⟨g, hg, hgb⟩ : ∃ g, a3 = some ⟨g, 0, none⟩ ∧ w2.heap.size ≤ g := by
    rcases hJ3.2.2 with ⟨q, _⟩ | ⟨g, cap, cur, q, hb, _⟩
    · injection q with q1 q2; omega
    · injection q with q1; exact ⟨g, q1, hb⟩
  subst hg
  have HBuf := hd hJ3.buf
  have HGB := hd hgb
  clear hJ3 hg3 hgb
  go_loopw [16] (fun s16 wr => ∃ (j q : Nat) (lt : List Nat), j ≤ 32 ∧ t + j ≤ 8 * N ∧ lt.length = W.length ∧ Crc.num lt = Crc.num W ^^^ q * 2 ^ t ∧ q < 2 ^ j ∧ (0 < j → q % 2 = 1) ∧ s16 = .int .i64 (j : Int) ∧ Buf wr g c3 (H4 ++ (lt ++ T)) ∧ Below w2.heap.size w2 wr) (fun s16 _ => 32 - (intOf s16).toNat)
  case atStart => exact ⟨0, 0, W, by omega, by omega, rfl, by simp, by simp, by omega, rfl, HBuf.out, HG3.out⟩
  case round =>
    clear HBuf HG3
    obtain ⟨j, q, lt, hj, htj, hlt, hnum, hq, hodd, rfl, hBuf, hbl⟩ := hrel
    have HB := hd hBuf
    have HL := hd hbl
    have HN := hd hnum
    have HQ := hd (And.intro hq hodd)
    have HLT := hd hlt
    clear hBuf hbl hnum hq hodd hlt
    have HFL : Hid ((H4 ++ (lt ++ T)).length = N + 9) := by show (H4 ++ (lt ++ T)).length = N + 9; rw [List.length_append, List.length_append, HH4.out, HT5.out, HLT.out, ← HNN.out]; omega
    have HLB : Hid (Byt lt) := by
      show Byt lt
      intro a ha
      exact HB.out.2.2.2.1 a (by simp [ha])
    by_cases hin : j < 32 ∧ t + j < 8 * N
    · obtain ⟨h32, hb8⟩ := hin
      have eb := ftmod2 P j
      by_cases hbit : P.testBit j
      · have hte : ((P / 2 ^ j % 2 : Nat) : Int) = 1 := by rw [Crc.bit_div, if_pos hbit]; rfl
        rw [hte] at eb
        have hjl : (t + j) / 8 < lt.length := by rw [HLT.out, ← HNN.out]; omega
        have hcj := HB.out.cell (j := 4 + (t + j) / 8) (by rw [HFL.out]; omega)
        have hfj := HB.out.2.2.2.2.2 (4 + (t + j) / 8) (by rw [HFL.out]; omega)
        have hge := get_mid H4 lt T ((t + j) / 8) hjl
        rw [HH4.out] at hge
        rw [hge] at hcj
        have lx := getD_lt HLB.out ((t + j) / 8)
        have HS := hd (Crc.num_set lt ((t + j) / 8) ((t + j) % 8) hjl)
        have HT : Hid (∀ y : Nat, y < 256 → Buf (wr.setCell ⟨g, 4 + (t + j) / 8, none⟩ (.int .u8 (y : Int))) g c3 (H4 ++ (lt.set ((t + j) / 8) y ++ T))) := by
          intro y hy
          have h1 := HB.out.set (j := 4 + (t + j) / 8) (y := y) (by rw [HFL.out]; omega) hy
          have h2 := set_mid H4 lt T ((t + j) / 8) y hjl
          rw [HH4.out] at h2
          rw [h2] at h1
          exact h1
        have HV := hd (xor_pow8 (r := (t + j) % 8) lx (by omega))
        have ly : lt.getD ((t + j) / 8) 0 ^^^ 2 ^ ((t + j) % 8) < 256 := Crc.xor_lt8 lx (show 2 ^ ((t + j) % 8) < 2 ^ 8 from Nat.pow_lt_pow_right (by decide) (by omega))
        generalize lt.getD ((t + j) / 8) 0 = x0 at *
        clear hbit hge hjl
        go_wp2
        go_region
        go_wp2
        go_roundw
        case rel =>
          refine ⟨j + 1, q ^^^ 2 ^ j, lt.set ((t + j) / 8) (x0 ^^^ 2 ^ ((t + j) % 8)), by omega, by omega, by rw [List.length_set]; exact HLT.out, ?_, ?_, ?_, by go_num, ?_, (HL.out.setCell (p := ⟨g, _, none⟩) HGB.out _).drew⟩
          · rw [HS.out, HN.out, Crc.xor_mul_pow, ← Nat.pow_add, Nat.xor_assoc, show 8 * ((t + j) / 8) + (t + j) % 8 = j + t by omega]
          · exact Nat.xor_lt_two_pow (Nat.lt_of_lt_of_le HQ.out.1 (Nat.pow_le_pow_right (by decide) (by omega))) (Nat.pow_lt_pow_right (by decide) (by omega))
          · intro _
            exact fodd_step HQ.out.1 HQ.out.2
          · rw [HV.out]; exact HT.out _ ly
        case measure => simp [intOf]; omega
      · have hte : ((P / 2 ^ j % 2 : Nat) : Int) = 0 := by rw [Crc.bit_div, if_neg hbit]; rfl
        rw [hte] at eb
        have hj0 : 0 < j := by
          refine Nat.pos_of_ne_zero fun h => ?_
          subst h
          exact hbit HO.out
        clear hbit hte
        go_wp2
        go_roundw
        case rel => exact ⟨j + 1, q, lt, by omega, by omega, HLT.out, HN.out, Nat.lt_of_lt_of_le HQ.out.1 (Nat.pow_le_pow_right (by decide) (by omega)), fun _ => HQ.out.2 hj0, by go_num, HB.out, HL.out⟩
        case measure => simp [intOf]; omega
    · have hj0 : 0 < j := by omega
      have hbad := HHIT2.out lt q t HLT.out HLB.out HN.out (by omega) (Nat.lt_of_lt_of_le HQ.out.1 (show 2 ^ j ≤ 2 ^ 32 from Nat.pow_le_pow_right (by decide) hj)) (by have := HQ.out.2 hj0; omega)
      obtain ⟨er, her, hdv⟩ := dval_err hbad
      have q1 : (((er : Nat) : Int) != 0) = true := by simp; omega
      have HD1 := hd (decode_all _ _ 0 wr (HB.out.isB HFL.out.symm))
      rw [hdv] at HD1
      have HIu := hd (HI2.out.below HL.out)
      have hL2 := HL.out.size
      clear hbad hdv HN HQ HB HHIT2 her
      obtain ⟨Y, hY, hY2⟩ : ∃ Y : Nat, Y = 1 + y % 255 ∧ Y < 256 := ⟨_, rfl, by omega⟩
      have hbadT := HTUR2.out Y (by omega)
      obtain ⟨er2, her2, hdv2⟩ := dval_err hbadT
      have q2 : (((er2 : Nat) : Int) != 0) = true := by simp; omega
      have HDV2 := hd hdv2
      have HYE := hd hY
      clear hbadT hdv2 her2 HTUR2 hY
      by_cases h32 : j < 32
      · have hcond : ¬ t + j < 8 * N := by omega
        go_wp2_with fail
        refine Calls.mono HD1.out ?_
        rintro e w5 ⟨rfl, hb⟩
        have HB5 : Hid (Below w2.heap.size w2 w5) := HL.out.trans (hb.mono hL2)
        have HI5 := hd (HI2.out.below HB5.out)
        have hs5 := HB5.out.size
        clear hb HD1
        have HI5a := hd (HI5.out.below ((Below.refl _ _).alloc (Nat.le_refl _) (.cells #[.int .i64 0, .int .u64 0, .int .i64 0, .string ⟨#[]⟩, .string ⟨#[]⟩, .int .u64 0, .int .i64 0, .int .i64 0, .int .i64 0, .string ⟨#[]⟩, .int .i64 0, .int .i64 0, .int .i64 0, .int .u32 0] 34)))
        have HB5a : Hid (Below w2.heap.size w2 (w5.alloc (.cells #[.int .i64 0, .int .u64 0, .int .i64 0, .string ⟨#[]⟩, .string ⟨#[]⟩, .int .u64 0, .int .i64 0, .int .i64 0, .int .i64 0, .string ⟨#[]⟩, .int .i64 0, .int .i64 0, .int .i64 0, .int .u32 0] 34))) := HB5.out.alloc hs5 _
        have hge := get_end H4 W T d
        rw [HH4.out, ← HNN.out, show 4 + N + d = N + 4 + d by omega] at hge
        have hse := fun y => set_end H4 W T d y
        rw [HH4.out, ← HNN.out, show 4 + N + d = N + 4 + d by omega] at hse
        have HGE := hd hge
        have HSE := hd hse
        clear hge hse
        have htv := getD_lt HTB.out d
        obtain ⟨tv, htve⟩ : ∃ tv, tv = T.getD d 0 := ⟨_, rfl⟩
        rw [← htve] at HGE HDV2 htv
        clear htve
        have hxv : bits .xor .u8 (tv : Int) (1 + (y : Int) % 255) = ((tv ^^^ Y : Nat) : Int) := by
          have e : (1 : Int) + (y : Int) % 255 = (Y : Int) := by have := HYE.out; omega
          rw [e, bx8 htv hY2]
        have hxl : tv ^^^ Y < 256 := Crc.xor_lt8 htv hY2
        go_wp2_with (at_builtin; refine wpList_append_jb _ rfl _ _ rfl w2.heap.size _ _ [] _ rfl rfl (jb_nil _ _) HI5a.out (N + 9) (by rw [HEL.out]; simp) _ (List.nil_append _) (by omega) (by rw [World.size_alloc]; omega) ?_; intro a6 c6 w6 hJ6 hg6 hc6; have HG6 := hd ((jb_nil (w5.alloc (.cells #[.int .i64 0, .int .u64 0, .int .i64 0, .string ⟨#[]⟩, .string ⟨#[]⟩, .int .u64 0, .int .i64 0, .int .i64 0, .int .i64 0, .string ⟨#[]⟩, .int .i64 0, .int .i64 0, .int .i64 0, .int .u32 0] 34)) w2.heap.size).grown HB5a.out (Nat.le_refl _) (by rw [World.size_alloc]; omega) hg6); obtain ⟨g6, hg6e, hgb6⟩ := row_some hJ6 (by omega); subst hg6e; have HB6 := hd hJ6.buf; have HGB6 := hd hgb6; have hcd := HB6.out.cell (j := N + 4 + d) (by rw [HEL.out]; omega); have hfd := HB6.out.2.2.2.2.2 (N + 4 + d) (by rw [HEL.out]; omega); rw [HGE.out] at hcd; clear hJ6 hg6 hgb6)
        have HB7 : Hid (Buf (w6.setCell ⟨g6, N + 4 + d, none⟩ (.int .u8 ((tv ^^^ Y : Nat) : Int))) g6 c6 (H4 ++ (W ++ T.set d (tv ^^^ Y)))) := by
          have h1 := HB6.out.set (j := N + 4 + d) (y := tv ^^^ Y) (by rw [HEL.out]; omega) hxl
          rw [HSE.out] at h1
          exact h1
        have HB7w : Hid (Below w.heap.size w (w6.setCell ⟨g6, N + 4 + d, none⟩ (.int .u8 ((tv ^^^ Y : Nat) : Int)))) := HB2.out.trans ((HG6.out.setCell (p := ⟨g6, N + 4 + d, none⟩) HGB6.out _).mono HB2.out.size)
        have HEL7 : Hid (N + 9 = (H4 ++ (W ++ T.set d (tv ^^^ Y))).length) := by
          show N + 9 = _
          rw [← HEL.out]; simp
        have HDD2 := hd (decode_all _ _ 0 _ (HB7.out.isB HEL7.out))
        rw [HDV2.out] at HDD2
        clear HDV2 HB7 HB6
        refine Calls.mono HDD2.out ?_
        rintro e w8 ⟨rfl, hb⟩
        have HB8 : Hid (Below w.heap.size w w8) := HB7w.out.trans (hb.mono HB7w.out.size)
        clear hb HDD2
        go_wp2_with fail
        go_ret
        exact ⟨rfl, HB8.out.alloc HB8.out.size _⟩
      · obtain rfl : j = 32 := by omega
        go_wp2_with fail
        refine Calls.mono HD1.out ?_
        rintro e w5 ⟨rfl, hb⟩
        have HB5 : Hid (Below w2.heap.size w2 w5) := HL.out.trans (hb.mono hL2)
        have HI5 := hd (HI2.out.below HB5.out)
        have hs5 := HB5.out.size
        clear hb HD1
        have HI5a := hd (HI5.out.below ((Below.refl _ _).alloc (Nat.le_refl _) (.cells #[.int .i64 0, .int .u64 0, .int .i64 0, .string ⟨#[]⟩, .string ⟨#[]⟩, .int .u64 0, .int .i64 0, .int .i64 0, .int .i64 0, .string ⟨#[]⟩, .int .i64 0, .int .i64 0, .int .i64 0, .int .u32 0] 34)))
        have HB5a : Hid (Below w2.heap.size w2 (w5.alloc (.cells #[.int .i64 0, .int .u64 0, .int .i64 0, .string ⟨#[]⟩, .string ⟨#[]⟩, .int .u64 0, .int .i64 0, .int .i64 0, .int .i64 0, .string ⟨#[]⟩, .int .i64 0, .int .i64 0, .int .i64 0, .int .u32 0] 34))) := HB5.out.alloc hs5 _
        have hge := get_end H4 W T d
        rw [HH4.out, ← HNN.out, show 4 + N + d = N + 4 + d by omega] at hge
        have hse := fun y => set_end H4 W T d y
        rw [HH4.out, ← HNN.out, show 4 + N + d = N + 4 + d by omega] at hse
        have HGE := hd hge
        have HSE := hd hse
        clear hge hse
        have htv := getD_lt HTB.out d
        obtain ⟨tv, htve⟩ : ∃ tv, tv = T.getD d 0 := ⟨_, rfl⟩
        rw [← htve] at HGE HDV2 htv
        clear htve
        have hxv : bits .xor .u8 (tv : Int) (1 + (y : Int) % 255) = ((tv ^^^ Y : Nat) : Int) := by
          have e : (1 : Int) + (y : Int) % 255 = (Y : Int) := by have := HYE.out; omega
          rw [e, bx8 htv hY2]
        have hxl : tv ^^^ Y < 256 := Crc.xor_lt8 htv hY2
        go_wp2_with (at_builtin; refine wpList_append_jb _ rfl _ _ rfl w2.heap.size _ _ [] _ rfl rfl (jb_nil _ _) HI5a.out (N + 9) (by rw [HEL.out]; simp) _ (List.nil_append _) (by omega) (by rw [World.size_alloc]; omega) ?_; intro a6 c6 w6 hJ6 hg6 hc6; have HG6 := hd ((jb_nil (w5.alloc (.cells #[.int .i64 0, .int .u64 0, .int .i64 0, .string ⟨#[]⟩, .string ⟨#[]⟩, .int .u64 0, .int .i64 0, .int .i64 0, .int .i64 0, .string ⟨#[]⟩, .int .i64 0, .int .i64 0, .int .i64 0, .int .u32 0] 34)) w2.heap.size).grown HB5a.out (Nat.le_refl _) (by rw [World.size_alloc]; omega) hg6); obtain ⟨g6, hg6e, hgb6⟩ := row_some hJ6 (by omega); subst hg6e; have HB6 := hd hJ6.buf; have HGB6 := hd hgb6; have hcd := HB6.out.cell (j := N + 4 + d) (by rw [HEL.out]; omega); have hfd := HB6.out.2.2.2.2.2 (N + 4 + d) (by rw [HEL.out]; omega); rw [HGE.out] at hcd; clear hJ6 hg6 hgb6)
        have HB7 : Hid (Buf (w6.setCell ⟨g6, N + 4 + d, none⟩ (.int .u8 ((tv ^^^ Y : Nat) : Int))) g6 c6 (H4 ++ (W ++ T.set d (tv ^^^ Y)))) := by
          have h1 := HB6.out.set (j := N + 4 + d) (y := tv ^^^ Y) (by rw [HEL.out]; omega) hxl
          rw [HSE.out] at h1
          exact h1
        have HB7w : Hid (Below w.heap.size w (w6.setCell ⟨g6, N + 4 + d, none⟩ (.int .u8 ((tv ^^^ Y : Nat) : Int)))) := HB2.out.trans ((HG6.out.setCell (p := ⟨g6, N + 4 + d, none⟩) HGB6.out _).mono HB2.out.size)
        have HEL7 : Hid (N + 9 = (H4 ++ (W ++ T.set d (tv ^^^ Y))).length) := by
          show N + 9 = _
          rw [← HEL.out]; simp
        have HDD2 := hd (decode_all _ _ 0 _ (HB7.out.isB HEL7.out))
        rw [HDV2.out] at HDD2
        clear HDV2 HB7 HB6
        refine Calls.mono HDD2.out ?_
        rintro e w8 ⟨rfl, hb⟩
        have HB8 : Hid (Below w.heap.size w w8) := HB7w.out.trans (hb.mono HB7w.out.size)
        clear hb HDD2
        go_wp2_with fail
        go_ret
        exact ⟨rfl, HB8.out.alloc HB8.out.size _⟩
set_option maxRecDepth 100000 in
set_option maxHeartbeats 2000000 in
theorem walk_nn (f : Fr) (x z : Int) (t d p y : Nat) (w : World) (hw : f.Wf) (h : rf f = 0) (ht : t < 8 * (Vt.wr (bd f)).length) (hd5 : d < 5) (hp : p < 4294967296) (hy : y < 256) (hx : x.tmod (8 * ((Vt.wr (bd f)).length : Int)) = -(t : Int)) (h0t : 0 < t) (hz : z.tmod 5 = -(d : Int)) (h0d : 0 < d) :
    Calls Try.prog 6 #[.agg (fv f), .int .i64 x, .int .u32 (p : Int), .int .i64 z, .int .u8 (y : Int)] w fun e w' => e = .returned (.bool true) ∧ Below w.heap.size w w' := by
  have HEN := hd (encF_all hw h)
  have hbb := bd_len hw h
  have hwl := wr_len (bd f)
  have hWb : Byt (Vt.wr (bd f)) := wr_byt (bd_byt h)
  have HEQ := hd (en_eq f)
  clear hw h
  obtain ⟨W, hW⟩ : ∃ W, W = Vt.wr (bd f) := ⟨_, rfl⟩
  rw [← hW] at HEQ hwl hWb ht hx
  obtain ⟨S, hSe⟩ : ∃ S, S = Crc.go 0 (dg 3 W.length ++ W) := ⟨_, rfl⟩
  rw [← hSe] at HEQ
  obtain ⟨N, hN⟩ : ∃ N, N = W.length := ⟨_, rfl⟩
  rw [← hN] at HEQ hwl ht hx
  have hN1 : 1 ≤ N ∧ N ≤ 4400 := by omega
  have HHIT := hd (fun (W' : List Nat) (q t : Nat) h1 h2 h3 h4 h5 h6 => hit_bad (W := W) (W' := W') (S := S) (q := q) (t := t) (by rw [← hN]; omega) h1 hWb h2 hSe.symm h3 h4 h5 h6)
  have HTUR := hd (fun (y : Nat) hy => turned_bad (W := W) (S := S) (d := d) (y := y) (by rw [← hN]; omega) hSe.symm hd5 hy)
  rw [← hN] at HHIT HTUR
  obtain ⟨H4, hH⟩ : ∃ H4, H4 = 167 :: dg 3 N := ⟨_, rfl⟩
  have HH4 : Hid (H4.length = 4) := by show H4.length = 4; rw [hH]; simp [dg_len]
  have HEQ2 : Hid (en f = H4 ++ (W ++ dg 5 S)) := by show en f = _; rw [HEQ.out, hH]; rfl
  have HHB : Hid (Byt H4) := by
    show Byt H4
    rw [hH]
    intro a ha
    rcases List.mem_cons.1 ha with rfl | ha
    · omega
    · exact dg_byt _ _ a ha
  have HT5 := hd (dg_len 5 S)
  have HTB := hd (dg_byt 5 S)
  have HHIT2 : Hid (∀ (W' : List Nat) (q t : Nat), W'.length = W.length → Byt W' → Crc.num W' = Crc.num W ^^^ q * 2 ^ t → t ≤ 8 * N → q < 4294967296 → q ≠ 0 → (decF (H4 ++ (W' ++ dg 5 S)) 0).2.2 ≠ 0) := by
    intro W' q t h1 h2 h3 h4 h5 h6
    have := HHIT.out W' q t (h1.trans hN.symm) h2 h3 h4 h5 h6
    rw [hH]; exact this
  have HTUR2 : Hid (∀ y : Nat, y ≠ 0 → (decF (H4 ++ (W ++ (dg 5 S).set d ((dg 5 S).getD d 0 ^^^ y))) 0).2.2 ≠ 0) := by
    intro y hy
    have := HTUR.out y hy
    rw [hH]; exact this
  have HWB := hd hWb
  have HNN := hd hN
  clear hH HEQ HHIT HTUR hWb hwl hbb hN hW hSe
  rw [HEQ2.out] at HEN
  clear HEQ2
  generalize dg 5 S = T at *
  have HEL : Hid ((H4 ++ (W ++ T)).length = N + 9) := by show (H4 ++ (W ++ T)).length = N + 9; rw [List.length_append, List.length_append, HH4.out, HT5.out, ← HNN.out]; omega
  have lP : p ||| 1 < 4294967296 := Nat.or_lt_two_pow (n := 32) hp (by decide)
  have eP : bits .or .u32 (p : Int) 1 = ((p ||| 1 : Nat) : Int) := u32_or_nat p 1 hp (by decide)
  have HO : Hid ((p ||| 1).testBit 0 = true) := by
    show (p ||| 1).testBit 0 = true
    rw [Nat.testBit_or]; simp
  generalize p ||| 1 = P at *
  obtain ⟨k, ⟨rl, rk, rkey, rval⟩, ⟨pl, pk, pa, pn, pkey⟩, ⟨ec, eb, ef, es⟩⟩ := f
  simp only [fv] at *
  have HX : Hid (Blk (w.alloc (.cells #[.int .i64 k, .int .u64 (rl : Int), .int .i64 rk, .string rkey, .string rval, .int .u64 (pl : Int), .int .i64 pk, .int .i64 pa, .int .i64 pn, .string pkey, .int .i64 ec, .int .i64 eb, .int .i64 ef, .int .u32 (es : Int)] 34)) w.heap.size 34 [.int .i64 k, .int .u64 (rl : Int), .int .i64 rk, .string rkey, .string rval, .int .u64 (pl : Int), .int .i64 pk, .int .i64 pa, .int .i64 pn, .string pkey, .int .i64 ec, .int .i64 eb, .int .i64 ef, .int .u32 (es : Int)]) := Blk.new w _ _
  go_enter Try.func6, Try.ntmps6
  go_wp2_with fail
  refine Calls.mono (known_is _) ?_
  rintro e w1 ⟨rfl, hb⟩
  have HB1 := hd (below_alloc1 hb)
  have HX1 := hd (HX.out.keep hb)
  clear hb HX
  have c0 := HX1.out.cell 0 _ rfl
  have c1 := HX1.out.cell 1 _ rfl
  have c2 := HX1.out.cell 2 _ rfl
  have c3 := HX1.out.cell 3 _ rfl
  have c4 := HX1.out.cell 4 _ rfl
  have c5 := HX1.out.cell 5 _ rfl
  have c6 := HX1.out.cell 6 _ rfl
  have c7 := HX1.out.cell 7 _ rfl
  have c8 := HX1.out.cell 8 _ rfl
  have c9 := HX1.out.cell 9 _ rfl
  have c10 := HX1.out.cell 10 _ rfl
  have c11 := HX1.out.cell 11 _ rfl
  have c12 := HX1.out.cell 12 _ rfl
  have c13 := HX1.out.cell 13 _ rfl
  go_wp2_with fail
  refine Calls.mono (HEN.out w1) ?_
  rintro e w2 ⟨u, rfl, hj, hb⟩
  have HB2 : Hid (Below w.heap.size w w2) := HB1.out.trans (hb.mono HB1.out.size)
  have HI2 := hd hj.isB
  obtain ⟨ua, uc, rfl, hcap⟩ := hj.shape
  rw [HEL.out] at HI2 hcap ⊢
  clear hb hj HEN HB1 HX1 c0 c1 c2 c3 c4 c5 c6 c7 c8 c9 c10 c11 c12 c13
  go_wp2_with (at_builtin; refine wpList_append_jb _ rfl _ _ rfl w2.heap.size _ _ [] _ rfl rfl (jb_nil _ _) HI2.out (N + 9) (by rw [HEL.out]; simp) _ (List.nil_append _) (by omega) (Nat.le_refl _) ?_; intro a3 c3 w3 hJ3 hg3 hc3)
  have HG3 := hd ((jb_nil w2 w2.heap.size).grown (Below.refl _ _) (Nat.le_refl _) (Nat.le_refl _) hg3)
  obtain ⟨g, hg, hgb⟩ : ∃ g, a3 = some ⟨g, 0, none⟩ ∧ w2.heap.size ≤ g := by
    rcases hJ3.2.2 with ⟨q, _⟩ | ⟨g, cap, cur, q, hb, _⟩
    · injection q with q1 q2; omega
    · injection q with q1; exact ⟨g, q1, hb⟩
  subst hg
  have HBuf := hd hJ3.buf
  have HGB := hd hgb
  clear hJ3 hg3 hgb
  go_loopw [16] (fun s16 wr => ∃ (j q : Nat) (lt : List Nat), j ≤ 32 ∧ t + j ≤ 8 * N ∧ lt.length = W.length ∧ Crc.num lt = Crc.num W ^^^ q * 2 ^ t ∧ q < 2 ^ j ∧ (0 < j → q % 2 = 1) ∧ s16 = .int .i64 (j : Int) ∧ Buf wr g c3 (H4 ++ (lt ++ T)) ∧ Below w2.heap.size w2 wr) (fun s16 _ => 32 - (intOf s16).toNat)
  case atStart => exact ⟨0, 0, W, by omega, by omega, rfl, by simp, by simp, by omega, rfl, HBuf.out, HG3.out⟩
  case round =>
    clear HBuf HG3
    obtain ⟨j, q, lt, hj, htj, hlt, hnum, hq, hodd, rfl, hBuf, hbl⟩ := hrel
    have HB := hd hBuf
    have HL := hd hbl
    have HN := hd hnum
    have HQ := hd (And.intro hq hodd)
    have HLT := hd hlt
    clear hBuf hbl hnum hq hodd hlt
    have HFL : Hid ((H4 ++ (lt ++ T)).length = N + 9) := by show (H4 ++ (lt ++ T)).length = N + 9; rw [List.length_append, List.length_append, HH4.out, HT5.out, HLT.out, ← HNN.out]; omega
    have HLB : Hid (Byt lt) := by
      show Byt lt
      intro a ha
      exact HB.out.2.2.2.1 a (by simp [ha])
    by_cases hin : j < 32 ∧ t + j < 8 * N
    · obtain ⟨h32, hb8⟩ := hin
      have eb := ftmod2 P j
      by_cases hbit : P.testBit j
      · have hte : ((P / 2 ^ j % 2 : Nat) : Int) = 1 := by rw [Crc.bit_div, if_pos hbit]; rfl
        rw [hte] at eb
        have hjl : (t + j) / 8 < lt.length := by rw [HLT.out, ← HNN.out]; omega
        have hcj := HB.out.cell (j := 4 + (t + j) / 8) (by rw [HFL.out]; omega)
        have hfj := HB.out.2.2.2.2.2 (4 + (t + j) / 8) (by rw [HFL.out]; omega)
        have hge := get_mid H4 lt T ((t + j) / 8) hjl
        rw [HH4.out] at hge
        rw [hge] at hcj
        have lx := getD_lt HLB.out ((t + j) / 8)
        have HS := hd (Crc.num_set lt ((t + j) / 8) ((t + j) % 8) hjl)
        have HT : Hid (∀ y : Nat, y < 256 → Buf (wr.setCell ⟨g, 4 + (t + j) / 8, none⟩ (.int .u8 (y : Int))) g c3 (H4 ++ (lt.set ((t + j) / 8) y ++ T))) := by
          intro y hy
          have h1 := HB.out.set (j := 4 + (t + j) / 8) (y := y) (by rw [HFL.out]; omega) hy
          have h2 := set_mid H4 lt T ((t + j) / 8) y hjl
          rw [HH4.out] at h2
          rw [h2] at h1
          exact h1
        have HV := hd (xor_pow8 (r := (t + j) % 8) lx (by omega))
        have ly : lt.getD ((t + j) / 8) 0 ^^^ 2 ^ ((t + j) % 8) < 256 := Crc.xor_lt8 lx (show 2 ^ ((t + j) % 8) < 2 ^ 8 from Nat.pow_lt_pow_right (by decide) (by omega))
        generalize lt.getD ((t + j) / 8) 0 = x0 at *
        clear hbit hge hjl
        go_wp2
        go_region
        go_wp2
        go_roundw
        case rel =>
          refine ⟨j + 1, q ^^^ 2 ^ j, lt.set ((t + j) / 8) (x0 ^^^ 2 ^ ((t + j) % 8)), by omega, by omega, by rw [List.length_set]; exact HLT.out, ?_, ?_, ?_, by go_num, ?_, (HL.out.setCell (p := ⟨g, _, none⟩) HGB.out _).drew⟩
          · rw [HS.out, HN.out, Crc.xor_mul_pow, ← Nat.pow_add, Nat.xor_assoc, show 8 * ((t + j) / 8) + (t + j) % 8 = j + t by omega]
          · exact Nat.xor_lt_two_pow (Nat.lt_of_lt_of_le HQ.out.1 (Nat.pow_le_pow_right (by decide) (by omega))) (Nat.pow_lt_pow_right (by decide) (by omega))
          · intro _
            exact fodd_step HQ.out.1 HQ.out.2
          · rw [HV.out]; exact HT.out _ ly
        case measure => simp [intOf]; omega
      · have hte : ((P / 2 ^ j % 2 : Nat) : Int) = 0 := by rw [Crc.bit_div, if_neg hbit]; rfl
        rw [hte] at eb
        have hj0 : 0 < j := by
          refine Nat.pos_of_ne_zero fun h => ?_
          subst h
          exact hbit HO.out
        clear hbit hte
        go_wp2
        go_roundw
        case rel => exact ⟨j + 1, q, lt, by omega, by omega, HLT.out, HN.out, Nat.lt_of_lt_of_le HQ.out.1 (Nat.pow_le_pow_right (by decide) (by omega)), fun _ => HQ.out.2 hj0, by go_num, HB.out, HL.out⟩
        case measure => simp [intOf]; omega
    · have hj0 : 0 < j := by omega
      have hbad := HHIT2.out lt q t HLT.out HLB.out HN.out (by omega) (Nat.lt_of_lt_of_le HQ.out.1 (show 2 ^ j ≤ 2 ^ 32 from Nat.pow_le_pow_right (by decide) hj)) (by have := HQ.out.2 hj0; omega)
      obtain ⟨er, her, hdv⟩ := dval_err hbad
      have q1 : (((er : Nat) : Int) != 0) = true := by simp; omega
      have HD1 := hd (decode_all _ _ 0 wr (HB.out.isB HFL.out.symm))
      rw [hdv] at HD1
      have HIu := hd (HI2.out.below HL.out)
      have hL2 := HL.out.size
      clear hbad hdv HN HQ HB HHIT2 her
      obtain ⟨Y, hY, hY2⟩ : ∃ Y : Nat, Y = 1 + y % 255 ∧ Y < 256 := ⟨_, rfl, by omega⟩
      have hbadT := HTUR2.out Y (by omega)
      obtain ⟨er2, her2, hdv2⟩ := dval_err hbadT
      have q2 : (((er2 : Nat) : Int) != 0) = true := by simp; omega
      have HDV2 := hd hdv2
      have HYE := hd hY
      clear hbadT hdv2 her2 HTUR2 hY
      by_cases h32 : j < 32
      · have hcond : ¬ t + j < 8 * N := by omega
        go_wp2_with fail
        refine Calls.mono HD1.out ?_
        rintro e w5 ⟨rfl, hb⟩
        have HB5 : Hid (Below w2.heap.size w2 w5) := HL.out.trans (hb.mono hL2)
        have HI5 := hd (HI2.out.below HB5.out)
        have hs5 := HB5.out.size
        clear hb HD1
        have HI5a := hd (HI5.out.below ((Below.refl _ _).alloc (Nat.le_refl _) (.cells #[.int .i64 0, .int .u64 0, .int .i64 0, .string ⟨#[]⟩, .string ⟨#[]⟩, .int .u64 0, .int .i64 0, .int .i64 0, .int .i64 0, .string ⟨#[]⟩, .int .i64 0, .int .i64 0, .int .i64 0, .int .u32 0] 34)))
        have HB5a : Hid (Below w2.heap.size w2 (w5.alloc (.cells #[.int .i64 0, .int .u64 0, .int .i64 0, .string ⟨#[]⟩, .string ⟨#[]⟩, .int .u64 0, .int .i64 0, .int .i64 0, .int .i64 0, .string ⟨#[]⟩, .int .i64 0, .int .i64 0, .int .i64 0, .int .u32 0] 34))) := HB5.out.alloc hs5 _
        have hge := get_end H4 W T d
        rw [HH4.out, ← HNN.out, show 4 + N + d = N + 4 + d by omega] at hge
        have hse := fun y => set_end H4 W T d y
        rw [HH4.out, ← HNN.out, show 4 + N + d = N + 4 + d by omega] at hse
        have HGE := hd hge
        have HSE := hd hse
        clear hge hse
        have htv := getD_lt HTB.out d
        obtain ⟨tv, htve⟩ : ∃ tv, tv = T.getD d 0 := ⟨_, rfl⟩
        rw [← htve] at HGE HDV2 htv
        clear htve
        have hxv : bits .xor .u8 (tv : Int) (1 + (y : Int) % 255) = ((tv ^^^ Y : Nat) : Int) := by
          have e : (1 : Int) + (y : Int) % 255 = (Y : Int) := by have := HYE.out; omega
          rw [e, bx8 htv hY2]
        have hxl : tv ^^^ Y < 256 := Crc.xor_lt8 htv hY2
        go_wp2_with (at_builtin; refine wpList_append_jb _ rfl _ _ rfl w2.heap.size _ _ [] _ rfl rfl (jb_nil _ _) HI5a.out (N + 9) (by rw [HEL.out]; simp) _ (List.nil_append _) (by omega) (by rw [World.size_alloc]; omega) ?_; intro a6 c6 w6 hJ6 hg6 hc6; have HG6 := hd ((jb_nil (w5.alloc (.cells #[.int .i64 0, .int .u64 0, .int .i64 0, .string ⟨#[]⟩, .string ⟨#[]⟩, .int .u64 0, .int .i64 0, .int .i64 0, .int .i64 0, .string ⟨#[]⟩, .int .i64 0, .int .i64 0, .int .i64 0, .int .u32 0] 34)) w2.heap.size).grown HB5a.out (Nat.le_refl _) (by rw [World.size_alloc]; omega) hg6); obtain ⟨g6, hg6e, hgb6⟩ := row_some hJ6 (by omega); subst hg6e; have HB6 := hd hJ6.buf; have HGB6 := hd hgb6; have hcd := HB6.out.cell (j := N + 4 + d) (by rw [HEL.out]; omega); have hfd := HB6.out.2.2.2.2.2 (N + 4 + d) (by rw [HEL.out]; omega); rw [HGE.out] at hcd; clear hJ6 hg6 hgb6)
        have HB7 : Hid (Buf (w6.setCell ⟨g6, N + 4 + d, none⟩ (.int .u8 ((tv ^^^ Y : Nat) : Int))) g6 c6 (H4 ++ (W ++ T.set d (tv ^^^ Y)))) := by
          have h1 := HB6.out.set (j := N + 4 + d) (y := tv ^^^ Y) (by rw [HEL.out]; omega) hxl
          rw [HSE.out] at h1
          exact h1
        have HB7w : Hid (Below w.heap.size w (w6.setCell ⟨g6, N + 4 + d, none⟩ (.int .u8 ((tv ^^^ Y : Nat) : Int)))) := HB2.out.trans ((HG6.out.setCell (p := ⟨g6, N + 4 + d, none⟩) HGB6.out _).mono HB2.out.size)
        have HEL7 : Hid (N + 9 = (H4 ++ (W ++ T.set d (tv ^^^ Y))).length) := by
          show N + 9 = _
          rw [← HEL.out]; simp
        have HDD2 := hd (decode_all _ _ 0 _ (HB7.out.isB HEL7.out))
        rw [HDV2.out] at HDD2
        clear HDV2 HB7 HB6
        refine Calls.mono HDD2.out ?_
        rintro e w8 ⟨rfl, hb⟩
        have HB8 : Hid (Below w.heap.size w w8) := HB7w.out.trans (hb.mono HB7w.out.size)
        clear hb HDD2
        go_wp2_with fail
        go_ret
        exact ⟨rfl, HB8.out.alloc HB8.out.size _⟩
      · obtain rfl : j = 32 := by omega
        go_wp2_with fail
        refine Calls.mono HD1.out ?_
        rintro e w5 ⟨rfl, hb⟩
        have HB5 : Hid (Below w2.heap.size w2 w5) := HL.out.trans (hb.mono hL2)
        have HI5 := hd (HI2.out.below HB5.out)
        have hs5 := HB5.out.size
        clear hb HD1
        have HI5a := hd (HI5.out.below ((Below.refl _ _).alloc (Nat.le_refl _) (.cells #[.int .i64 0, .int .u64 0, .int .i64 0, .string ⟨#[]⟩, .string ⟨#[]⟩, .int .u64 0, .int .i64 0, .int .i64 0, .int .i64 0, .string ⟨#[]⟩, .int .i64 0, .int .i64 0, .int .i64 0, .int .u32 0] 34)))
        have HB5a : Hid (Below w2.heap.size w2 (w5.alloc (.cells #[.int .i64 0, .int .u64 0, .int .i64 0, .string ⟨#[]⟩, .string ⟨#[]⟩, .int .u64 0, .int .i64 0, .int .i64 0, .int .i64 0, .string ⟨#[]⟩, .int .i64 0, .int .i64 0, .int .i64 0, .int .u32 0] 34))) := HB5.out.alloc hs5 _
        have hge := get_end H4 W T d
        rw [HH4.out, ← HNN.out, show 4 + N + d = N + 4 + d by omega] at hge
        have hse := fun y => set_end H4 W T d y
        rw [HH4.out, ← HNN.out, show 4 + N + d = N + 4 + d by omega] at hse
        have HGE := hd hge
        have HSE := hd hse
        clear hge hse
        have htv := getD_lt HTB.out d
        obtain ⟨tv, htve⟩ : ∃ tv, tv = T.getD d 0 := ⟨_, rfl⟩
        rw [← htve] at HGE HDV2 htv
        clear htve
        have hxv : bits .xor .u8 (tv : Int) (1 + (y : Int) % 255) = ((tv ^^^ Y : Nat) : Int) := by
          have e : (1 : Int) + (y : Int) % 255 = (Y : Int) := by have := HYE.out; omega
          rw [e, bx8 htv hY2]
        have hxl : tv ^^^ Y < 256 := Crc.xor_lt8 htv hY2
        go_wp2_with (at_builtin; refine wpList_append_jb _ rfl _ _ rfl w2.heap.size _ _ [] _ rfl rfl (jb_nil _ _) HI5a.out (N + 9) (by rw [HEL.out]; simp) _ (List.nil_append _) (by omega) (by rw [World.size_alloc]; omega) ?_; intro a6 c6 w6 hJ6 hg6 hc6; have HG6 := hd ((jb_nil (w5.alloc (.cells #[.int .i64 0, .int .u64 0, .int .i64 0, .string ⟨#[]⟩, .string ⟨#[]⟩, .int .u64 0, .int .i64 0, .int .i64 0, .int .i64 0, .string ⟨#[]⟩, .int .i64 0, .int .i64 0, .int .i64 0, .int .u32 0] 34)) w2.heap.size).grown HB5a.out (Nat.le_refl _) (by rw [World.size_alloc]; omega) hg6); obtain ⟨g6, hg6e, hgb6⟩ := row_some hJ6 (by omega); subst hg6e; have HB6 := hd hJ6.buf; have HGB6 := hd hgb6; have hcd := HB6.out.cell (j := N + 4 + d) (by rw [HEL.out]; omega); have hfd := HB6.out.2.2.2.2.2 (N + 4 + d) (by rw [HEL.out]; omega); rw [HGE.out] at hcd; clear hJ6 hg6 hgb6)
        have HB7 : Hid (Buf (w6.setCell ⟨g6, N + 4 + d, none⟩ (.int .u8 ((tv ^^^ Y : Nat) : Int))) g6 c6 (H4 ++ (W ++ T.set d (tv ^^^ Y)))) := by
          have h1 := HB6.out.set (j := N + 4 + d) (y := tv ^^^ Y) (by rw [HEL.out]; omega) hxl
          rw [HSE.out] at h1
          exact h1
        have HB7w : Hid (Below w.heap.size w (w6.setCell ⟨g6, N + 4 + d, none⟩ (.int .u8 ((tv ^^^ Y : Nat) : Int)))) := HB2.out.trans ((HG6.out.setCell (p := ⟨g6, N + 4 + d, none⟩) HGB6.out _).mono HB2.out.size)
        have HEL7 : Hid (N + 9 = (H4 ++ (W ++ T.set d (tv ^^^ Y))).length) := by
          show N + 9 = _
          rw [← HEL.out]; simp
        have HDD2 := hd (decode_all _ _ 0 _ (HB7.out.isB HEL7.out))
        rw [HDV2.out] at HDD2
        clear HDV2 HB7 HB6
        refine Calls.mono HDD2.out ?_
        rintro e w8 ⟨rfl, hb⟩
        have HB8 : Hid (Below w.heap.size w w8) := HB7w.out.trans (hb.mono HB7w.out.size)
        clear hb HDD2
        go_wp2_with fail
        go_ret
        exact ⟨rfl, HB8.out.alloc HB8.out.size _⟩
theorem walk (f : Fr) (a1 a2 a3 a4 : Int) (w : World) (hw : f.Wf) (_ : (Lit.int .i64 a1).wf = true) (w2 : (Lit.int .u32 a2).wf = true) (_ : (Lit.int .i64 a3).wf = true) (w4 : (Lit.int .u8 a4).wf = true) :
    Calls Try.prog 6 #[.agg (fv f), .int .i64 a1, .int .u32 a2, .int .i64 a3, .int .u8 a4] w fun e w' => e = .returned (.bool true) ∧ Below w.heap.size w w' := by
  have h2 := bounds_u32 w2
  have h4 := wf_u8 w4
  by_cases h : rf f = 0
  · obtain ⟨p, rfl⟩ : ∃ p : Nat, a2 = (p : Int) := ⟨a2.toNat, by omega⟩
    obtain ⟨y, rfl⟩ : ∃ y : Nat, a4 = (y : Int) := ⟨a4.toNat, by omega⟩
    have hN : 1 ≤ (Vt.wr (bd f)).length := by
      have h1 := (bd_len hw h).2
      have h2 := (wr_len (bd f)).1
      omega
    obtain ⟨t, ht, hx⟩ : ∃ t : Nat, t < 8 * (Vt.wr (bd f)).length ∧ (a1.tmod (8 * ((Vt.wr (bd f)).length : Int)) = (t : Int) ∨ (a1.tmod (8 * ((Vt.wr (bd f)).length : Int)) = -(t : Int) ∧ 0 < t)) := by
      generalize (Vt.wr (bd f)).length = N at *
      have h1 : (a1.tmod (8 * (N : Int))).natAbs = a1.natAbs % (8 * N) := by
        rw [Int.natAbs_tmod]; congr 1
      exact ⟨a1.natAbs % (8 * N), Nat.mod_lt _ (by omega), by omega⟩
    obtain ⟨d, hd, hz⟩ : ∃ d : Nat, d < 5 ∧ (a3.tmod 5 = (d : Int) ∨ (a3.tmod 5 = -(d : Int) ∧ 0 < d)) := by
      have h1 : (a3.tmod 5).natAbs = a3.natAbs % 5 := by rw [Int.natAbs_tmod]; rfl
      exact ⟨a3.natAbs % 5, Nat.mod_lt _ (by omega), by omega⟩
    rcases hx with hx | ⟨hx, h0t⟩ <;> rcases hz with hz | ⟨hz, h0d⟩
    · exact walk_pp f a1 a3 t d p y w hw h ht hd (by omega) (by omega) hx hz
    · exact walk_pn f a1 a3 t d p y w hw h ht hd (by omega) (by omega) hx hz h0d
    · exact walk_np f a1 a3 t d p y w hw h ht hd (by omega) (by omega) hx h0t hz
    · exact walk_nn f a1 a3 t d p y w hw h ht hd (by omega) (by omega) hx h0t hz h0d
  · exact walk_no f a1 a2 a3 a4 w h
set_option linter.unusedVariables false
set_option maxRecDepth 100000 in
theorem lifted (os : Os) (started : os.Started) (H : Type) (enc : TypeId × Value → H) :
    ReturnsInHanded {} Try.checked os 6 .any (Rows.frameHitSpec.pre6 enc Try.prog Try.f6 Rows.frameHitRow.domain false) (Rows.frameHitSpec.post enc Try.prog Try.f6 false true false false) := by
  refine returnsInHanded_of_change (C := Try.checked) own started (by kernel_rfl) Try.func6
    (ChangeSpec.witness6 (enc := enc) (C := Try.checked) false ⟨#[], #[.agg #[.int .i64 0, .int .u64 0, .int .i64 0, .string ⟨#[]⟩, .string ⟨#[]⟩, .int .u64 0, .int .i64 0, .int .i64 0, .int .i64 0, .string ⟨#[]⟩, .int .i64 0, .int .i64 0, .int .i64 0, .int .u32 0], .int .i64 0, .int .u32 0, .int .i64 0, .int .u8 0], []⟩ 8 (by kernel_rfl) (by kernel_rfl) (by kernel_rfl) (by kernel_rfl)) ?_
  intro W base args ds gs before hval0 hW hcnd _
  have hval : ∀ (j : Nat) t v, Try.f6.params[j]? = some t → args[j]? = some v → Value.okWide Try.prog W .any base t v := hval0
  have hW' := hW
  obtain ⟨p, q, hA0, hV, rfl, hfz, hnd⟩ := hW
  have hA : DataW.TrodAll enc Try.prog W 0 (fun _ => true) true Try.f6.params.toList args.toList ds p := hA0
  rw [Try.params6] at hA hval
  obtain ⟨v0, vs0, d0, ds0, p0, q0, hargs, rfl, rfl, h0, r0⟩ := trodAll_cons hA
  obtain ⟨v1, vs1, d1, ds1, p1, q1, rfl, rfl, rfl, h1, r1⟩ := trodAll_cons r0
  obtain ⟨v2, vs2, d2, ds2, p2, q2, rfl, rfl, rfl, h2, r2⟩ := trodAll_cons r1
  obtain ⟨v3, vs3, d3, ds3, p3, q3, rfl, rfl, rfl, h3, r3⟩ := trodAll_cons r2
  obtain ⟨v4, vs4, d4, ds4, p4, q4, rfl, rfl, rfl, h4, r4⟩ := trodAll_cons r3
  obtain ⟨rfl, rfl, rfl⟩ := trodAll_nil r4
  obtain rfl : args = #[v0, v1, v2, v3, v4] := by cases args; simp_all
  obtain ⟨rfl, rfl⟩ := trodVars_none hV
  obtain ⟨f0, rfl, w0⟩ := frame_arg (hval 0 34 v0 rfl rfl)
  have lt0 : ∀ x ∈ p0, x.block < W.heap.size := by obtain ⟨m, hm⟩ := h0; exact DataW.trod_lt m _ _ _ hm
  obtain ⟨a1, rfl, rfl, rfl, w1⟩ := open_int Try.underlying3 (hval 1 3 v1 rfl rfl) h1
  obtain ⟨a2, rfl, rfl, rfl, w2⟩ := open_int Try.underlying28 (hval 2 28 v2 rfl rfl) h2
  obtain ⟨a3, rfl, rfl, rfl, w3⟩ := open_int Try.underlying3 (hval 3 3 v3 rfl rfl) h3
  obtain ⟨a4, rfl, rfl, rfl, w4⟩ := open_int Try.underlying5 (hval 4 5 v4 rfl rfl) h4
  clear hA0 hval0
  refine (walk f0 a1 a2 a3 a4 W w0 w1 w2 w3 w4).mono fun e W' ⟨he, bel⟩ => ?_
  subst he
  exact ⟨_, rfl, _, _, _, [], _, [], hW', trodAll_mk1 (shut_bool Try.underlying4 _), (trodAll_cons_mk (Below.trod laidOut (by kernel_rfl) (of_decide_eq_true (by kernel_rfl)) h0 bel lt0) (trodAll_cons_mk (shut_int Try.underlying3 w1) (trodAll_cons_mk (shut_int Try.underlying28 w2) (trodAll_cons_mk (shut_int Try.underlying3 w3) (trodAll_cons_mk (shut_int Try.underlying5 w4) trodAll_mk0))))), rfl, bel.frame _, fun h => by cases h⟩

theorem over : Rows.frameHitRow.holds Try.pinned (OpenSpec.ofChange Rows.frameHitSpec) :=
  OpenClaim.holds_of_wide 6 Try.f6 rfl rfl rfl rfl rfl rfl rfl ⟨rfl, rfl, rfl, rfl, rfl⟩ rfl rfl rfl rfl rfl (by kernel_rfl) Try.func6 (by kernel_rfl)
    (of_decide_eq_true (by kernel_rfl)) (by unfold Func.isWrapper; first | (rw [if_pos (by decide +kernel)]; kernel_rfl) | (rw [if_neg (by decide +kernel)]; exact ⟨rfl, rfl⟩))
    (fun os started H enc _ => lifted os started H enc)
end Fhi

theorem frameHit_holds : Rows.FrameHitSaid := Fhi.over
#print axioms frameHit_holds
end Go.Proofs.Yticcmeicpkgfnaa
