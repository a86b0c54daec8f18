/-
  hint.Check: does a record stand where a pointer says?
  THE REFERENCE OF LAYER 10: Check says what the program's says.
-/
import Derived.Test.YtnjhbidialngmaaXhbl
import Derived.Test.YtnjhbidialngmaaXhbm
import Derived.Test.YtnjhbidialngmaaXhbg
namespace Go.Proofs.Ytnjhbidialngmaa
open Go.RowKit Go.Shelf
namespace Vt
attribute [local go_sem] Oper.semAt_some
theorem bytes_eq {a b : ByteArray} (e : a.toList = b.toList) : a = b := by
  rw [ByteArray.toList_eq, ByteArray.toList_eq] at e
  exact Go.WideShapes.bytes_inj e
theorem eq_ptr (p : Ptr) (w : World) : (Op.equalIn 10000 27 (.agg (pv p)) (.agg (pv p))).run Try.prog w = .ok true w := by
  unfold pv
  simp [go_sem, Op.eqFields]
theorem ne_ptr {p q : Ptr} (h : p ≠ q) (w : World) : (Op.equalIn 10000 27 (.agg (pv p)) (.agg (pv q))).run Try.prog w = .ok false w := by
  obtain ⟨a1, a2, a3, a4, a5⟩ := p
  obtain ⟨b1, b2, b3, b4, b5⟩ := q
  unfold pv
  simp [go_sem, Op.eqFields]
  intro h1 h2 h3 h4 h5
  obtain rfl : a1 = b1 := by omega
  exact h (by rw [h2, h3, h4, bytes_eq h5])
open Classical in
theorem eql_ptr (p q : Ptr) (w : World) : (binOp .eql 27 (.agg (pv p)) (.agg (pv q))).run Try.prog w = .ok (.bool (decide (p = q))) w := by
  by_cases h : p = q
  · subst h; rw [run_eql_struct, eq_ptr]; simp
  · rw [run_eql_struct, ne_ptr h, decide_eq_false h]; rfl
open Classical in
/-- does a record stand where a pointer says? -/
noncomputable def chk (l : List Nat) (p : Ptr) : Bool := decide ((decF l p.at_).2.2 = 0 ∧ isRec (decF l p.at_).1 = true ∧ p = ptr (decF l p.at_).1 p.at_ ((decF l p.at_).2.1 : Int))
open Classical in
set_option maxRecDepth 100000 in
set_option maxHeartbeats 2000000 in
theorem check_is (v : Value) (l : List Nat) (p : Ptr) (w : World) (hI : IsB w v l) :
    Calls Try.prog 37 #[v, .agg (pv p)] w fun e w' => e = .returned (.bool (chk l p)) ∧ Below w.heap.size w w' := by
  have hmx : Try.prog.follows .mixedOrders = true := by kernel_rfl
  obtain ⟨a, c, rfl⟩ := hI.shape
  have HC : Hid (∀ w', Below w.heap.size w w' → Calls Try.prog 22 #[.slice a l.length c, .int .i64 p.at_] w' fun e w'' => e = .returned (dval (decF l p.at_)) ∧ Below w'.heap.size w' w'') := fun w' h => decode_all _ l p.at_ w' (hI.below h)
  obtain ⟨f, q, er, hdd⟩ : ∃ f q er, decF l p.at_ = (f, q, er) := ⟨_, _, _, rfl⟩
  have HH := hd (hasRecord_is f)
  have HP := hd (pointerTo_is f p.at_ (q : Int))
  have HE := hd (eql_ptr p (ptr f p.at_ (q : Int)))
  have hk : chk l p = (decide (er = 0) && isRec f && decide (p = ptr f p.at_ (q : Int))) := by unfold chk; rw [hdd]; simp [Bool.and_assoc]
  obtain ⟨bP, hbP⟩ : ∃ b, b = decide (p = ptr f p.at_ (q : Int)) := ⟨_, rfl⟩
  obtain ⟨bR, hbR⟩ : ∃ b, b = isRec f := ⟨_, rfl⟩
  rw [← hbP, ← hbR] at hk
  rw [← hbP] at HE
  rw [← hbR] at HH
  rw [hdd] at HC
  have HK := hd hk
  obtain ⟨bc, hbc⟩ : ∃ b, b = chk l p := ⟨_, rfl⟩
  rw [← hbc] at HK ⊢
  clear hdd hI hk hbP hbR hbc
  obtain ⟨p1, p2, p3, p4, p5⟩ := p
  obtain ⟨k, ⟨rl, rk, rkey, rval⟩, ⟨pl, pk, pa, pn, pkey⟩, ⟨ec, eb, ef, es⟩⟩ := f
  simp only [pv, dval, fv, lfv, ptr] at HC HH HP HE ⊢
  go_enter Try.func37, Try.ntmps37
  go_wp2_with fail
  refine Calls.mono (HC.out _ ((Below.refl _ _).alloc (Nat.le_refl _) _)) ?_
  rintro e w1 ⟨rfl, hb⟩
  have HB := hd (below_alloc1 hb)
  have HPW := hd ((Blk.new w 27 _).keep hb)
  have hsz := hb.size
  rw [World.size_alloc] at hsz
  clear hb HC
  go_wp2_with fail
  obtain ⟨Wr, hWr⟩ : ∃ Wr, Wr = w1.alloc (.cells #[.int .i64 k, .int .u64 (rl : Int), .int .i64 rk, .string rkey, .string rval, .int .u64 (pl : Int), .int .i64 pk, .int .i64 pa, .int .i64 pn, .string pkey, .int .i64 ec, .int .i64 eb, .int .i64 ef, .int .u32 (es : Int)] 34) := ⟨_, rfl⟩
  have HBW : Hid (Below w.heap.size w Wr) := by rw [hWr]; exact HB.out.alloc HB.out.size _
  have HFB : Hid (∀ w9, Below Wr.heap.size Wr w9 → Blk w9 w1.heap.size 34 [.int .i64 k, .int .u64 (rl : Int), .int .i64 rk, .string rkey, .string rval, .int .u64 (pl : Int), .int .i64 pk, .int .i64 pa, .int .i64 pn, .string pkey, .int .i64 ec, .int .i64 eb, .int .i64 ef, .int .u32 (es : Int)]) := fun w9 h => Blk.keep (by rw [hWr]; exact Blk.new w1 34 _) h
  have HPB : Hid (∀ w9, Below Wr.heap.size Wr w9 → Blk w9 w.heap.size 27 [.int .u64 (p1 : Int), .int .i64 p2, .int .i64 p3, .int .i64 p4, .string p5]) := fun w9 h => Blk.keep (by rw [hWr]; exact HPW.out.alloc _) h
  rw [← hWr]
  clear hWr HB HPW hsz
  by_cases h1 : er = 0
  · have e1 : ((er : Int) == 0) = true := by simp; omega
    have H1 := hd h1
    clear h1
    cases bR with
    | true =>
      refine region_skip (fun i9 v9 _ => match i9 with
        | 0 => v9 = Value.int IntKind.i64 (er : Int)
        | 1 => v9 = .bool true
        | 2 => v9 = .bool true
        | 3 => v9 = .agg #[.int .i64 k, .int .u64 (rl : Int), .int .i64 rk, .string rkey, .string rval, .int .u64 (pl : Int), .int .i64 pk, .int .i64 pa, .int .i64 pn, .string pkey, .int .i64 ec, .int .i64 eb, .int .i64 ef, .int .u32 (es : Int)]
        | 4 => v9 = .bool true
        | 5 => v9 = .bool true
        | 6 => v9 = .bool true
        | 7 => v9 = .agg #[.int .u64 (p1 : Int), .int .i64 p2, .int .i64 p3, .int .i64 p4, .string p5]
        | 8 => v9 = .agg #[.int .i64 k, .int .u64 (rl : Int), .int .i64 rk, .string rkey, .string rval, .int .u64 (pl : Int), .int .i64 pk, .int .i64 pa, .int .i64 pn, .string pkey, .int .i64 ec, .int .i64 eb, .int .i64 ef, .int .u32 (es : Int)]
        | 9 => v9 = .pointer (some ⟨w.heap.size, 2, none⟩)
        | 10 => v9 = .int .i64 p3
        | 11 => v9 = Value.int IntKind.i64 (q : Int)
        | 12 => v9 = .agg #[.int .i64 k, .int .u64 (rl : Int), .int .i64 rk, .string rkey, .string rval, .int .u64 (pl : Int), .int .i64 pk, .int .i64 pa, .int .i64 pn, .string pkey, .int .i64 ec, .int .i64 eb, .int .i64 ef, .int .u32 (es : Int), .int .i64 p3, .int .i64 (q : Int)]
        | 13 => v9 = .agg #[.int .u64 (rl : Int), .int .i64 rk, .int .i64 p3, .int .i64 (q : Int), .string rkey]
        | 14 => v9 = .bool bP
        | 15 => v9 = .bool bP
        | _ => v9 = .bool bP) (fun w => Below Wr.heap.size Wr w) hmx (by kernel_rfl) (by kernel_rfl) ((Below.refl _ _).drew) ?_ ?_ ?_
      · intro i9 v9 w8 w9 _ _ hb hG
        match i9, hG with
        | 0, h => exact h
        | 1, h => exact h
        | 2, h => exact h
        | 3, h => exact h
        | 4, h => exact h
        | 5, h => exact h
        | 6, h => exact h
        | 7, h => exact h
        | 8, h => exact h
        | 9, h => exact h
        | 10, h => exact h
        | 11, h => exact h
        | 12, h => exact h
        | 13, h => exact h
        | 14, h => exact h
        | 15, h => exact h
        | n + 16, h => exact h
      · intro i9 o9 ho a9 w9 hW hdf hsz hout haf
        have ee3 := getq (show a9.tmps.getD 3 undef = Value.pointer (some { block := w.heap.size, off := 0 }) from hout 3 (notDst_spec (by kernel_rfl)))
        have ee5 := getq (show a9.tmps.getD 5 undef = Value.pointer (some { block := w1.heap.size, off := 0 }) from hout 5 (notDst_spec (by kernel_rfl)))
        have ee6 := getq (show a9.tmps.getD 6 undef = Value.int IntKind.i64 (q : Int) from hout 6 (notDst_spec (by kernel_rfl)))
        have ee7 := getq (show a9.tmps.getD 7 undef = Value.int IntKind.i64 (er : Int) from hout 7 (notDst_spec (by kernel_rfl)))
        have hsz2 : a9.tmps.size = 32 := hsz
        clear hout hsz hdf
        match i9, ho, haf with
        | 0, ho, haf =>
          obtain rfl := Option.some.inj ho
          refine skip_good _ (wanted_none rfl) ?_
          clear haf ho hsz2
          intro K hK
          simp only [List.getElem_toArray, List.getElem_cons_zero] at hK ⊢
          go_simp
          exact hK _ _ ⟨Below.refl _ _, hW, rfl⟩
        | 1, ho, haf =>
          obtain rfl := Option.some.inj ho
          have f0 := getq (show a9.tmps.getD 16 undef = Value.int IntKind.i64 (er : Int) from haf ⟨0, .data⟩ (by simp) rfl)
          refine skip_good _ (wanted_none rfl) ?_
          clear haf ho hsz2
          intro K hK
          simp only [List.getElem_toArray, List.getElem_cons_succ, List.getElem_cons_zero] at hK ⊢
          go_simp
          exact hK _ _ ⟨Below.refl _ _, hW, rfl⟩
        | 2, ho, haf =>
          obtain rfl := Option.some.inj ho
          have f1 := getq (show a9.tmps.getD 17 undef = .bool true from haf ⟨1, .data⟩ (by simp) rfl)
          refine skip_good _ (wanted_none rfl) ?_
          clear haf ho hsz2
          intro K hK
          simp only [List.getElem_toArray, List.getElem_cons_succ, List.getElem_cons_zero] at hK ⊢
          go_simp
          exact hK _ _ ⟨Below.refl _ _, hW, rfl⟩
        | 3, ho, haf =>
          obtain rfl := Option.some.inj ho
          have gg : a9.tmps.getD 18 undef = .bool true := haf ⟨2, .guard⟩ (by simp) rfl
          refine skip_good _ (wanted_some rfl (yielded_of (d := 18) rfl (by omega) gg)) ?_
          clear haf ho hsz2 gg
          intro K hK
          simp only [List.getElem_toArray, List.getElem_cons_succ, List.getElem_cons_zero] at hK ⊢
          have t0 := (HFB.out w9 hW).cell 0 _ rfl
          have t1 := (HFB.out w9 hW).cell 1 _ rfl
          have t2 := (HFB.out w9 hW).cell 2 _ rfl
          have t3 := (HFB.out w9 hW).cell 3 _ rfl
          have t4 := (HFB.out w9 hW).cell 4 _ rfl
          have t5 := (HFB.out w9 hW).cell 5 _ rfl
          have t6 := (HFB.out w9 hW).cell 6 _ rfl
          have t7 := (HFB.out w9 hW).cell 7 _ rfl
          have t8 := (HFB.out w9 hW).cell 8 _ rfl
          have t9 := (HFB.out w9 hW).cell 9 _ rfl
          have t10 := (HFB.out w9 hW).cell 10 _ rfl
          have t11 := (HFB.out w9 hW).cell 11 _ rfl
          have t12 := (HFB.out w9 hW).cell 12 _ rfl
          have t13 := (HFB.out w9 hW).cell 13 _ rfl
          go_simp
          exact hK _ _ ⟨Below.refl _ _, hW, rfl⟩
        | 4, ho, haf =>
          obtain rfl := Option.some.inj ho
          have gg : a9.tmps.getD 18 undef = .bool true := haf ⟨2, .guard⟩ (by simp) rfl
          have f3 := getq (show a9.tmps.getD 19 undef = .agg #[.int .i64 k, .int .u64 (rl : Int), .int .i64 rk, .string rkey, .string rval, .int .u64 (pl : Int), .int .i64 pk, .int .i64 pa, .int .i64 pn, .string pkey, .int .i64 ec, .int .i64 eb, .int .i64 ef, .int .u32 (es : Int)] from haf ⟨3, .data⟩ (by simp) rfl)
          refine skip_good _ (wanted_some rfl (yielded_of (d := 18) rfl (by omega) gg)) ?_
          clear haf ho hsz2 gg
          intro K hK
          simp only [List.getElem_toArray, List.getElem_cons_succ, List.getElem_cons_zero] at hK ⊢
          go_simp
          refine Calls.mono (HH.out _) ?_
          rintro e9 w8 ⟨rfl, hb9⟩
          exact hK _ _ ⟨hb9, hW.trans (hb9.mono hW.size), rfl⟩
        | 5, ho, haf =>
          obtain rfl := Option.some.inj ho
          have f2 := getq (show a9.tmps.getD 18 undef = .bool true from haf ⟨2, .data⟩ (by simp) rfl)
          have f4 := getq (show a9.tmps.getD 20 undef = .bool true from haf ⟨4, .data⟩ (by simp) rfl)
          refine skip_good _ (wanted_none rfl) ?_
          clear haf ho hsz2
          intro K hK
          simp only [List.getElem_toArray, List.getElem_cons_succ, List.getElem_cons_zero] at hK ⊢
          go_simp
          exact hK _ _ ⟨Below.refl _ _, hW, rfl⟩
        | 6, ho, haf =>
          obtain rfl := Option.some.inj ho
          have f5 := getq (show a9.tmps.getD 21 undef = .bool true from haf ⟨5, .data⟩ (by simp) rfl)
          refine skip_good _ (wanted_none rfl) ?_
          clear haf ho hsz2
          intro K hK
          simp only [List.getElem_toArray, List.getElem_cons_succ, List.getElem_cons_zero] at hK ⊢
          go_simp
          exact hK _ _ ⟨Below.refl _ _, hW, rfl⟩
        | 7, ho, haf =>
          obtain rfl := Option.some.inj ho
          have gg : a9.tmps.getD 22 undef = .bool true := haf ⟨6, .guard⟩ (by simp) rfl
          refine skip_good _ (wanted_some rfl (yielded_of (d := 22) rfl (by omega) gg)) ?_
          clear haf ho hsz2 gg
          intro K hK
          simp only [List.getElem_toArray, List.getElem_cons_succ, List.getElem_cons_zero] at hK ⊢
          have t0 := (HPB.out w9 hW).cell 0 _ rfl
          have t1 := (HPB.out w9 hW).cell 1 _ rfl
          have t2 := (HPB.out w9 hW).cell 2 _ rfl
          have t3 := (HPB.out w9 hW).cell 3 _ rfl
          have t4 := (HPB.out w9 hW).cell 4 _ rfl
          go_simp
          exact hK _ _ ⟨Below.refl _ _, hW, rfl⟩
        | 8, ho, haf =>
          obtain rfl := Option.some.inj ho
          have gg : a9.tmps.getD 22 undef = .bool true := haf ⟨6, .guard⟩ (by simp) rfl
          refine skip_good _ (wanted_some rfl (yielded_of (d := 22) rfl (by omega) gg)) ?_
          clear haf ho hsz2 gg
          intro K hK
          simp only [List.getElem_toArray, List.getElem_cons_succ, List.getElem_cons_zero] at hK ⊢
          have t0 := (HFB.out w9 hW).cell 0 _ rfl
          have t1 := (HFB.out w9 hW).cell 1 _ rfl
          have t2 := (HFB.out w9 hW).cell 2 _ rfl
          have t3 := (HFB.out w9 hW).cell 3 _ rfl
          have t4 := (HFB.out w9 hW).cell 4 _ rfl
          have t5 := (HFB.out w9 hW).cell 5 _ rfl
          have t6 := (HFB.out w9 hW).cell 6 _ rfl
          have t7 := (HFB.out w9 hW).cell 7 _ rfl
          have t8 := (HFB.out w9 hW).cell 8 _ rfl
          have t9 := (HFB.out w9 hW).cell 9 _ rfl
          have t10 := (HFB.out w9 hW).cell 10 _ rfl
          have t11 := (HFB.out w9 hW).cell 11 _ rfl
          have t12 := (HFB.out w9 hW).cell 12 _ rfl
          have t13 := (HFB.out w9 hW).cell 13 _ rfl
          go_simp
          exact hK _ _ ⟨Below.refl _ _, hW, rfl⟩
        | 9, ho, haf =>
          obtain rfl := Option.some.inj ho
          have gg : a9.tmps.getD 22 undef = .bool true := haf ⟨6, .guard⟩ (by simp) rfl
          refine skip_good _ (wanted_some rfl (yielded_of (d := 22) rfl (by omega) gg)) ?_
          clear haf ho hsz2 gg
          intro K hK
          simp only [List.getElem_toArray, List.getElem_cons_succ, List.getElem_cons_zero] at hK ⊢
          go_simp
          exact hK _ _ ⟨Below.refl _ _, hW, rfl⟩
        | 10, ho, haf =>
          obtain rfl := Option.some.inj ho
          have gg : a9.tmps.getD 22 undef = .bool true := haf ⟨6, .guard⟩ (by simp) rfl
          have f9 := getq (show a9.tmps.getD 25 undef = .pointer (some ⟨w.heap.size, 2, none⟩) from haf ⟨9, .data⟩ (by simp) rfl)
          refine skip_good _ (wanted_some rfl (yielded_of (d := 22) rfl (by omega) gg)) ?_
          clear haf ho hsz2 gg
          intro K hK
          simp only [List.getElem_toArray, List.getElem_cons_succ, List.getElem_cons_zero] at hK ⊢
          have t0 := (HPB.out w9 hW).cell 0 _ rfl
          have t1 := (HPB.out w9 hW).cell 1 _ rfl
          have t2 := (HPB.out w9 hW).cell 2 _ rfl
          have t3 := (HPB.out w9 hW).cell 3 _ rfl
          have t4 := (HPB.out w9 hW).cell 4 _ rfl
          go_simp
          exact hK _ _ ⟨Below.refl _ _, hW, rfl⟩
        | 11, ho, haf =>
          obtain rfl := Option.some.inj ho
          have gg : a9.tmps.getD 22 undef = .bool true := haf ⟨6, .guard⟩ (by simp) rfl
          refine skip_good _ (wanted_some rfl (yielded_of (d := 22) rfl (by omega) gg)) ?_
          clear haf ho hsz2 gg
          intro K hK
          simp only [List.getElem_toArray, List.getElem_cons_succ, List.getElem_cons_zero] at hK ⊢
          go_simp
          exact hK _ _ ⟨Below.refl _ _, hW, rfl⟩
        | 12, ho, haf =>
          obtain rfl := Option.some.inj ho
          have gg : a9.tmps.getD 22 undef = .bool true := haf ⟨6, .guard⟩ (by simp) rfl
          have f8 := getq (show a9.tmps.getD 24 undef = .agg #[.int .i64 k, .int .u64 (rl : Int), .int .i64 rk, .string rkey, .string rval, .int .u64 (pl : Int), .int .i64 pk, .int .i64 pa, .int .i64 pn, .string pkey, .int .i64 ec, .int .i64 eb, .int .i64 ef, .int .u32 (es : Int)] from haf ⟨8, .data⟩ (by simp) rfl)
          have f10 := getq (show a9.tmps.getD 26 undef = .int .i64 p3 from haf ⟨10, .data⟩ (by simp) rfl)
          have f11 := getq (show a9.tmps.getD 27 undef = Value.int IntKind.i64 (q : Int) from haf ⟨11, .data⟩ (by simp) rfl)
          refine skip_good _ (wanted_some rfl (yielded_of (d := 22) rfl (by omega) gg)) ?_
          clear haf ho hsz2 gg
          intro K hK
          simp only [List.getElem_toArray, List.getElem_cons_succ, List.getElem_cons_zero] at hK ⊢
          go_simp
          exact hK _ _ ⟨Below.refl _ _, hW, rfl⟩
        | 13, ho, haf =>
          obtain rfl := Option.some.inj ho
          have gg : a9.tmps.getD 22 undef = .bool true := haf ⟨6, .guard⟩ (by simp) rfl
          have f12 := getq (show a9.tmps.getD 28 undef = .agg #[.int .i64 k, .int .u64 (rl : Int), .int .i64 rk, .string rkey, .string rval, .int .u64 (pl : Int), .int .i64 pk, .int .i64 pa, .int .i64 pn, .string pkey, .int .i64 ec, .int .i64 eb, .int .i64 ef, .int .u32 (es : Int), .int .i64 p3, .int .i64 (q : Int)] from haf ⟨12, .data⟩ (by simp) rfl)
          refine skip_good _ (wanted_some rfl (yielded_of (d := 22) rfl (by omega) gg)) ?_
          clear haf ho hsz2 gg
          intro K hK
          simp only [List.getElem_toArray, List.getElem_cons_succ, List.getElem_cons_zero] at hK ⊢
          go_simp
          refine Calls.mono (HP.out _) ?_
          rintro e9 w8 ⟨rfl, hb9⟩
          exact hK _ _ ⟨hb9, hW.trans (hb9.mono hW.size), rfl⟩
        | 14, ho, haf =>
          obtain rfl := Option.some.inj ho
          have gg : a9.tmps.getD 22 undef = .bool true := haf ⟨6, .guard⟩ (by simp) rfl
          have f7 := getq (show a9.tmps.getD 23 undef = .agg #[.int .u64 (p1 : Int), .int .i64 p2, .int .i64 p3, .int .i64 p4, .string p5] from haf ⟨7, .data⟩ (by simp) rfl)
          have f13 := getq (show a9.tmps.getD 29 undef = .agg #[.int .u64 (rl : Int), .int .i64 rk, .int .i64 p3, .int .i64 (q : Int), .string rkey] from haf ⟨13, .data⟩ (by simp) rfl)
          refine skip_good _ (wanted_some rfl (yielded_of (d := 22) rfl (by omega) gg)) ?_
          clear haf ho hsz2 gg
          intro K hK
          simp only [List.getElem_toArray, List.getElem_cons_succ, List.getElem_cons_zero] at hK ⊢
          have he := HE.out
          go_simp
          exact hK _ _ ⟨Below.refl _ _, hW, rfl⟩
        | 15, ho, haf =>
          obtain rfl := Option.some.inj ho
          have f6 := getq (show a9.tmps.getD 22 undef = .bool true from haf ⟨6, .data⟩ (by simp) rfl)
          have f14 := getq (show a9.tmps.getD 30 undef = .bool bP from haf ⟨14, .data⟩ (by simp) rfl)
          refine skip_good _ (wanted_none rfl) ?_
          clear haf ho hsz2
          intro K hK
          simp only [List.getElem_toArray, List.getElem_cons_succ, List.getElem_cons_zero] at hK ⊢
          go_simp
          exact hK _ _ ⟨Below.refl _ _, hW, rfl⟩
        | 16, ho, haf =>
          obtain rfl := Option.some.inj ho
          have f15 := getq (show a9.tmps.getD 31 undef = .bool bP from haf ⟨15, .data⟩ (by simp) rfl)
          refine skip_good _ (wanted_none rfl) ?_
          clear haf ho hsz2
          intro K hK
          simp only [List.getElem_toArray, List.getElem_cons_succ, List.getElem_cons_zero] at hK ⊢
          go_simp
          exact hK _ _ ⟨Below.refl _ _, hW, rfl⟩
        | n + 17, ho, haf => simp at ho
      · intro aa w9 hW hdf hsz hout hall
        have hat : aa.tmps = #[Value.slice a l.length c, Value.agg #[Value.int IntKind.u64 (p1 : Int), Value.int IntKind.i64 p2, Value.int IntKind.i64 p3, Value.int IntKind.i64 p4, Value.string p5], undef, Value.pointer (some { block := w.heap.size, off := 0 }), .bool bP, Value.pointer (some { block := w1.heap.size, off := 0 }), Value.int IntKind.i64 (q : Int), Value.int IntKind.i64 (er : Int), Value.tuple #[Value.agg #[Value.int IntKind.i64 k, Value.int IntKind.u64 (rl : Int), Value.int IntKind.i64 rk, Value.string rkey, Value.string rval, Value.int IntKind.u64 (pl : Int), Value.int IntKind.i64 pk, Value.int IntKind.i64 pa, Value.int IntKind.i64 pn, Value.string pkey, Value.int IntKind.i64 ec, Value.int IntKind.i64 eb, Value.int IntKind.i64 ef, Value.int IntKind.u32 (es : Int)], Value.int IntKind.i64 (q : Int), Value.int IntKind.i64 (er : Int)], Value.slice a l.length c, Value.pointer (some { block := w.heap.size, off := 2 }), Value.int IntKind.i64 p3, Value.tuple #[Value.agg #[Value.int IntKind.i64 k, Value.int IntKind.u64 (rl : Int), Value.int IntKind.i64 rk, Value.string rkey, Value.string rval, Value.int IntKind.u64 (pl : Int), Value.int IntKind.i64 pk, Value.int IntKind.i64 pa, Value.int IntKind.i64 pn, Value.string pkey, Value.int IntKind.i64 ec, Value.int IntKind.i64 eb, Value.int IntKind.i64 ef, Value.int IntKind.u32 (es : Int)], Value.int IntKind.i64 (q : Int), Value.int IntKind.i64 (er : Int)], Value.agg #[Value.int IntKind.i64 k, Value.int IntKind.u64 (rl : Int), Value.int IntKind.i64 rk, Value.string rkey, Value.string rval, Value.int IntKind.u64 (pl : Int), Value.int IntKind.i64 pk, Value.int IntKind.i64 pa, Value.int IntKind.i64 pn, Value.string pkey, Value.int IntKind.i64 ec, Value.int IntKind.i64 eb, Value.int IntKind.i64 ef, Value.int IntKind.u32 (es : Int)], Value.int IntKind.i64 (q : Int), Value.int IntKind.i64 (er : Int), Value.int IntKind.i64 (er : Int), .bool true, .bool true, .agg #[.int .i64 k, .int .u64 (rl : Int), .int .i64 rk, .string rkey, .string rval, .int .u64 (pl : Int), .int .i64 pk, .int .i64 pa, .int .i64 pn, .string pkey, .int .i64 ec, .int .i64 eb, .int .i64 ef, .int .u32 (es : Int)], .bool true, .bool true, .bool true, .agg #[.int .u64 (p1 : Int), .int .i64 p2, .int .i64 p3, .int .i64 p4, .string p5], .agg #[.int .i64 k, .int .u64 (rl : Int), .int .i64 rk, .string rkey, .string rval, .int .u64 (pl : Int), .int .i64 pk, .int .i64 pa, .int .i64 pn, .string pkey, .int .i64 ec, .int .i64 eb, .int .i64 ef, .int .u32 (es : Int)], .pointer (some ⟨w.heap.size, 2, none⟩), .int .i64 p3, Value.int IntKind.i64 (q : Int), .agg #[.int .i64 k, .int .u64 (rl : Int), .int .i64 rk, .string rkey, .string rval, .int .u64 (pl : Int), .int .i64 pk, .int .i64 pa, .int .i64 pn, .string pkey, .int .i64 ec, .int .i64 eb, .int .i64 ef, .int .u32 (es : Int), .int .i64 p3, .int .i64 (q : Int)], .agg #[.int .u64 (rl : Int), .int .i64 rk, .int .i64 p3, .int .i64 (q : Int), .string rkey], .bool bP, .bool bP] := by
          refine arr_one (hsz.trans rfl) fun kk hkk => ?_
          match kk, hkk with
          | 0, _ => exact hout 0 (notDst_spec (by kernel_rfl))
          | 1, _ => exact hout 1 (notDst_spec (by kernel_rfl))
          | 2, _ => exact hout 2 (notDst_spec (by kernel_rfl))
          | 3, _ => exact hout 3 (notDst_spec (by kernel_rfl))
          | 4, _ => exact hall 16 (by decide)
          | 5, _ => exact hout 5 (notDst_spec (by kernel_rfl))
          | 6, _ => exact hout 6 (notDst_spec (by kernel_rfl))
          | 7, _ => exact hout 7 (notDst_spec (by kernel_rfl))
          | 8, _ => exact hout 8 (notDst_spec (by kernel_rfl))
          | 9, _ => exact hout 9 (notDst_spec (by kernel_rfl))
          | 10, _ => exact hout 10 (notDst_spec (by kernel_rfl))
          | 11, _ => exact hout 11 (notDst_spec (by kernel_rfl))
          | 12, _ => exact hout 12 (notDst_spec (by kernel_rfl))
          | 13, _ => exact hout 13 (notDst_spec (by kernel_rfl))
          | 14, _ => exact hout 14 (notDst_spec (by kernel_rfl))
          | 15, _ => exact hout 15 (notDst_spec (by kernel_rfl))
          | 16, _ => exact hall 0 (by decide)
          | 17, _ => exact hall 1 (by decide)
          | 18, _ => exact hall 2 (by decide)
          | 19, _ => exact hall 3 (by decide)
          | 20, _ => exact hall 4 (by decide)
          | 21, _ => exact hall 5 (by decide)
          | 22, _ => exact hall 6 (by decide)
          | 23, _ => exact hall 7 (by decide)
          | 24, _ => exact hall 8 (by decide)
          | 25, _ => exact hall 9 (by decide)
          | 26, _ => exact hall 10 (by decide)
          | 27, _ => exact hall 11 (by decide)
          | 28, _ => exact hall 12 (by decide)
          | 29, _ => exact hall 13 (by decide)
          | 30, _ => exact hall 14 (by decide)
          | 31, _ => exact hall 15 (by decide)
          | n + 32, h => exact absurd h (by simp)
        obtain ⟨tt, dd⟩ := aa
        simp only at hat hdf
        subst hat hdf
        clear hsz hout hall
        clear HH HP HE HFB HPB
        go_wp2_with fail
        go_ret
        exact ⟨by rw [HK.out]; simp [H1.out], HBW.out.trans (hW.mono HBW.out.size)⟩
    | false =>
      refine region_skip (fun i9 v9 _ => match i9 with
        | 0 => v9 = Value.int IntKind.i64 (er : Int)
        | 1 => v9 = .bool true
        | 2 => v9 = .bool true
        | 3 => v9 = .agg #[.int .i64 k, .int .u64 (rl : Int), .int .i64 rk, .string rkey, .string rval, .int .u64 (pl : Int), .int .i64 pk, .int .i64 pa, .int .i64 pn, .string pkey, .int .i64 ec, .int .i64 eb, .int .i64 ef, .int .u32 (es : Int)]
        | 4 => v9 = .bool false
        | 5 => v9 = .bool false
        | 6 => v9 = .bool false
        | 7 => v9 = undef
        | 8 => v9 = undef
        | 9 => v9 = undef
        | 10 => v9 = undef
        | 11 => v9 = undef
        | 12 => v9 = undef
        | 13 => v9 = undef
        | 14 => v9 = undef
        | 15 => v9 = .bool false
        | _ => v9 = .bool false) (fun w => Below Wr.heap.size Wr w) hmx (by kernel_rfl) (by kernel_rfl) ((Below.refl _ _).drew) ?_ ?_ ?_
      · intro i9 v9 w8 w9 _ _ hb hG
        match i9, hG with
        | 0, h => exact h
        | 1, h => exact h
        | 2, h => exact h
        | 3, h => exact h
        | 4, h => exact h
        | 5, h => exact h
        | 6, h => exact h
        | 7, h => exact h
        | 8, h => exact h
        | 9, h => exact h
        | 10, h => exact h
        | 11, h => exact h
        | 12, h => exact h
        | 13, h => exact h
        | 14, h => exact h
        | 15, h => exact h
        | n + 16, h => exact h
      · intro i9 o9 ho a9 w9 hW hdf hsz hout haf
        have ee5 := getq (show a9.tmps.getD 5 undef = Value.pointer (some { block := w1.heap.size, off := 0 }) from hout 5 (notDst_spec (by kernel_rfl)))
        have ee7 := getq (show a9.tmps.getD 7 undef = Value.int IntKind.i64 (er : Int) from hout 7 (notDst_spec (by kernel_rfl)))
        have hsz2 : a9.tmps.size = 32 := hsz
        clear hout hsz hdf
        match i9, ho, haf with
        | 0, ho, haf =>
          obtain rfl := Option.some.inj ho
          refine skip_good _ (wanted_none rfl) ?_
          clear haf ho hsz2
          intro K hK
          simp only [List.getElem_toArray, List.getElem_cons_zero] at hK ⊢
          go_simp
          exact hK _ _ ⟨Below.refl _ _, hW, rfl⟩
        | 1, ho, haf =>
          obtain rfl := Option.some.inj ho
          have f0 := getq (show a9.tmps.getD 16 undef = Value.int IntKind.i64 (er : Int) from haf ⟨0, .data⟩ (by simp) rfl)
          refine skip_good _ (wanted_none rfl) ?_
          clear haf ho hsz2
          intro K hK
          simp only [List.getElem_toArray, List.getElem_cons_succ, List.getElem_cons_zero] at hK ⊢
          go_simp
          exact hK _ _ ⟨Below.refl _ _, hW, rfl⟩
        | 2, ho, haf =>
          obtain rfl := Option.some.inj ho
          have f1 := getq (show a9.tmps.getD 17 undef = .bool true from haf ⟨1, .data⟩ (by simp) rfl)
          refine skip_good _ (wanted_none rfl) ?_
          clear haf ho hsz2
          intro K hK
          simp only [List.getElem_toArray, List.getElem_cons_succ, List.getElem_cons_zero] at hK ⊢
          go_simp
          exact hK _ _ ⟨Below.refl _ _, hW, rfl⟩
        | 3, ho, haf =>
          obtain rfl := Option.some.inj ho
          have gg : a9.tmps.getD 18 undef = .bool true := haf ⟨2, .guard⟩ (by simp) rfl
          refine skip_good _ (wanted_some rfl (yielded_of (d := 18) rfl (by omega) gg)) ?_
          clear haf ho hsz2 gg
          intro K hK
          simp only [List.getElem_toArray, List.getElem_cons_succ, List.getElem_cons_zero] at hK ⊢
          have t0 := (HFB.out w9 hW).cell 0 _ rfl
          have t1 := (HFB.out w9 hW).cell 1 _ rfl
          have t2 := (HFB.out w9 hW).cell 2 _ rfl
          have t3 := (HFB.out w9 hW).cell 3 _ rfl
          have t4 := (HFB.out w9 hW).cell 4 _ rfl
          have t5 := (HFB.out w9 hW).cell 5 _ rfl
          have t6 := (HFB.out w9 hW).cell 6 _ rfl
          have t7 := (HFB.out w9 hW).cell 7 _ rfl
          have t8 := (HFB.out w9 hW).cell 8 _ rfl
          have t9 := (HFB.out w9 hW).cell 9 _ rfl
          have t10 := (HFB.out w9 hW).cell 10 _ rfl
          have t11 := (HFB.out w9 hW).cell 11 _ rfl
          have t12 := (HFB.out w9 hW).cell 12 _ rfl
          have t13 := (HFB.out w9 hW).cell 13 _ rfl
          go_simp
          exact hK _ _ ⟨Below.refl _ _, hW, rfl⟩
        | 4, ho, haf =>
          obtain rfl := Option.some.inj ho
          have gg : a9.tmps.getD 18 undef = .bool true := haf ⟨2, .guard⟩ (by simp) rfl
          have f3 := getq (show a9.tmps.getD 19 undef = .agg #[.int .i64 k, .int .u64 (rl : Int), .int .i64 rk, .string rkey, .string rval, .int .u64 (pl : Int), .int .i64 pk, .int .i64 pa, .int .i64 pn, .string pkey, .int .i64 ec, .int .i64 eb, .int .i64 ef, .int .u32 (es : Int)] from haf ⟨3, .data⟩ (by simp) rfl)
          refine skip_good _ (wanted_some rfl (yielded_of (d := 18) rfl (by omega) gg)) ?_
          clear haf ho hsz2 gg
          intro K hK
          simp only [List.getElem_toArray, List.getElem_cons_succ, List.getElem_cons_zero] at hK ⊢
          go_simp
          refine Calls.mono (HH.out _) ?_
          rintro e9 w8 ⟨rfl, hb9⟩
          exact hK _ _ ⟨hb9, hW.trans (hb9.mono hW.size), rfl⟩
        | 5, ho, haf =>
          obtain rfl := Option.some.inj ho
          have f2 := getq (show a9.tmps.getD 18 undef = .bool true from haf ⟨2, .data⟩ (by simp) rfl)
          have f4 := getq (show a9.tmps.getD 20 undef = .bool false from haf ⟨4, .data⟩ (by simp) rfl)
          refine skip_good _ (wanted_none rfl) ?_
          clear haf ho hsz2
          intro K hK
          simp only [List.getElem_toArray, List.getElem_cons_succ, List.getElem_cons_zero] at hK ⊢
          go_simp
          exact hK _ _ ⟨Below.refl _ _, hW, rfl⟩
        | 6, ho, haf =>
          obtain rfl := Option.some.inj ho
          have f5 := getq (show a9.tmps.getD 21 undef = .bool false from haf ⟨5, .data⟩ (by simp) rfl)
          refine skip_good _ (wanted_none rfl) ?_
          clear haf ho hsz2
          intro K hK
          simp only [List.getElem_toArray, List.getElem_cons_succ, List.getElem_cons_zero] at hK ⊢
          go_simp
          exact hK _ _ ⟨Below.refl _ _, hW, rfl⟩
        | 7, ho, haf =>
          obtain rfl := Option.some.inj ho
          have gg : a9.tmps.getD 22 undef = .bool false := haf ⟨6, .guard⟩ (by simp) rfl
          exact skip_no (b := false) rfl (yielded_of (d := 22) rfl (by omega) gg) rfl
        | 8, ho, haf =>
          obtain rfl := Option.some.inj ho
          have gg : a9.tmps.getD 22 undef = .bool false := haf ⟨6, .guard⟩ (by simp) rfl
          exact skip_no (b := false) rfl (yielded_of (d := 22) rfl (by omega) gg) rfl
        | 9, ho, haf =>
          obtain rfl := Option.some.inj ho
          have gg : a9.tmps.getD 22 undef = .bool false := haf ⟨6, .guard⟩ (by simp) rfl
          exact skip_no (b := false) rfl (yielded_of (d := 22) rfl (by omega) gg) rfl
        | 10, ho, haf =>
          obtain rfl := Option.some.inj ho
          have gg : a9.tmps.getD 22 undef = .bool false := haf ⟨6, .guard⟩ (by simp) rfl
          exact skip_no (b := false) rfl (yielded_of (d := 22) rfl (by omega) gg) rfl
        | 11, ho, haf =>
          obtain rfl := Option.some.inj ho
          have gg : a9.tmps.getD 22 undef = .bool false := haf ⟨6, .guard⟩ (by simp) rfl
          exact skip_no (b := false) rfl (yielded_of (d := 22) rfl (by omega) gg) rfl
        | 12, ho, haf =>
          obtain rfl := Option.some.inj ho
          have gg : a9.tmps.getD 22 undef = .bool false := haf ⟨6, .guard⟩ (by simp) rfl
          exact skip_no (b := false) rfl (yielded_of (d := 22) rfl (by omega) gg) rfl
        | 13, ho, haf =>
          obtain rfl := Option.some.inj ho
          have gg : a9.tmps.getD 22 undef = .bool false := haf ⟨6, .guard⟩ (by simp) rfl
          exact skip_no (b := false) rfl (yielded_of (d := 22) rfl (by omega) gg) rfl
        | 14, ho, haf =>
          obtain rfl := Option.some.inj ho
          have gg : a9.tmps.getD 22 undef = .bool false := haf ⟨6, .guard⟩ (by simp) rfl
          exact skip_no (b := false) rfl (yielded_of (d := 22) rfl (by omega) gg) rfl
        | 15, ho, haf =>
          obtain rfl := Option.some.inj ho
          have f6 := getq (show a9.tmps.getD 22 undef = .bool false from haf ⟨6, .data⟩ (by simp) rfl)
          have f14 := getq (show a9.tmps.getD 30 undef = undef from haf ⟨14, .data⟩ (by simp) rfl)
          refine skip_good _ (wanted_none rfl) ?_
          clear haf ho hsz2
          intro K hK
          simp only [List.getElem_toArray, List.getElem_cons_succ, List.getElem_cons_zero] at hK ⊢
          go_simp
          exact hK _ _ ⟨Below.refl _ _, hW, rfl⟩
        | 16, ho, haf =>
          obtain rfl := Option.some.inj ho
          have f15 := getq (show a9.tmps.getD 31 undef = .bool false from haf ⟨15, .data⟩ (by simp) rfl)
          refine skip_good _ (wanted_none rfl) ?_
          clear haf ho hsz2
          intro K hK
          simp only [List.getElem_toArray, List.getElem_cons_succ, List.getElem_cons_zero] at hK ⊢
          go_simp
          exact hK _ _ ⟨Below.refl _ _, hW, rfl⟩
        | n + 17, ho, haf => simp at ho
      · intro aa w9 hW hdf hsz hout hall
        have hat : aa.tmps = #[Value.slice a l.length c, Value.agg #[Value.int IntKind.u64 (p1 : Int), Value.int IntKind.i64 p2, Value.int IntKind.i64 p3, Value.int IntKind.i64 p4, Value.string p5], undef, Value.pointer (some { block := w.heap.size, off := 0 }), .bool false, Value.pointer (some { block := w1.heap.size, off := 0 }), Value.int IntKind.i64 (q : Int), Value.int IntKind.i64 (er : Int), Value.tuple #[Value.agg #[Value.int IntKind.i64 k, Value.int IntKind.u64 (rl : Int), Value.int IntKind.i64 rk, Value.string rkey, Value.string rval, Value.int IntKind.u64 (pl : Int), Value.int IntKind.i64 pk, Value.int IntKind.i64 pa, Value.int IntKind.i64 pn, Value.string pkey, Value.int IntKind.i64 ec, Value.int IntKind.i64 eb, Value.int IntKind.i64 ef, Value.int IntKind.u32 (es : Int)], Value.int IntKind.i64 (q : Int), Value.int IntKind.i64 (er : Int)], Value.slice a l.length c, Value.pointer (some { block := w.heap.size, off := 2 }), Value.int IntKind.i64 p3, Value.tuple #[Value.agg #[Value.int IntKind.i64 k, Value.int IntKind.u64 (rl : Int), Value.int IntKind.i64 rk, Value.string rkey, Value.string rval, Value.int IntKind.u64 (pl : Int), Value.int IntKind.i64 pk, Value.int IntKind.i64 pa, Value.int IntKind.i64 pn, Value.string pkey, Value.int IntKind.i64 ec, Value.int IntKind.i64 eb, Value.int IntKind.i64 ef, Value.int IntKind.u32 (es : Int)], Value.int IntKind.i64 (q : Int), Value.int IntKind.i64 (er : Int)], Value.agg #[Value.int IntKind.i64 k, Value.int IntKind.u64 (rl : Int), Value.int IntKind.i64 rk, Value.string rkey, Value.string rval, Value.int IntKind.u64 (pl : Int), Value.int IntKind.i64 pk, Value.int IntKind.i64 pa, Value.int IntKind.i64 pn, Value.string pkey, Value.int IntKind.i64 ec, Value.int IntKind.i64 eb, Value.int IntKind.i64 ef, Value.int IntKind.u32 (es : Int)], Value.int IntKind.i64 (q : Int), Value.int IntKind.i64 (er : Int), Value.int IntKind.i64 (er : Int), .bool true, .bool true, .agg #[.int .i64 k, .int .u64 (rl : Int), .int .i64 rk, .string rkey, .string rval, .int .u64 (pl : Int), .int .i64 pk, .int .i64 pa, .int .i64 pn, .string pkey, .int .i64 ec, .int .i64 eb, .int .i64 ef, .int .u32 (es : Int)], .bool false, .bool false, .bool false, undef, undef, undef, undef, undef, undef, undef, undef, .bool false] := by
          refine arr_one (hsz.trans rfl) fun kk hkk => ?_
          match kk, hkk with
          | 0, _ => exact hout 0 (notDst_spec (by kernel_rfl))
          | 1, _ => exact hout 1 (notDst_spec (by kernel_rfl))
          | 2, _ => exact hout 2 (notDst_spec (by kernel_rfl))
          | 3, _ => exact hout 3 (notDst_spec (by kernel_rfl))
          | 4, _ => exact hall 16 (by decide)
          | 5, _ => exact hout 5 (notDst_spec (by kernel_rfl))
          | 6, _ => exact hout 6 (notDst_spec (by kernel_rfl))
          | 7, _ => exact hout 7 (notDst_spec (by kernel_rfl))
          | 8, _ => exact hout 8 (notDst_spec (by kernel_rfl))
          | 9, _ => exact hout 9 (notDst_spec (by kernel_rfl))
          | 10, _ => exact hout 10 (notDst_spec (by kernel_rfl))
          | 11, _ => exact hout 11 (notDst_spec (by kernel_rfl))
          | 12, _ => exact hout 12 (notDst_spec (by kernel_rfl))
          | 13, _ => exact hout 13 (notDst_spec (by kernel_rfl))
          | 14, _ => exact hout 14 (notDst_spec (by kernel_rfl))
          | 15, _ => exact hout 15 (notDst_spec (by kernel_rfl))
          | 16, _ => exact hall 0 (by decide)
          | 17, _ => exact hall 1 (by decide)
          | 18, _ => exact hall 2 (by decide)
          | 19, _ => exact hall 3 (by decide)
          | 20, _ => exact hall 4 (by decide)
          | 21, _ => exact hall 5 (by decide)
          | 22, _ => exact hall 6 (by decide)
          | 23, _ => exact hall 7 (by decide)
          | 24, _ => exact hall 8 (by decide)
          | 25, _ => exact hall 9 (by decide)
          | 26, _ => exact hall 10 (by decide)
          | 27, _ => exact hall 11 (by decide)
          | 28, _ => exact hall 12 (by decide)
          | 29, _ => exact hall 13 (by decide)
          | 30, _ => exact hall 14 (by decide)
          | 31, _ => exact hall 15 (by decide)
          | n + 32, h => exact absurd h (by simp)
        obtain ⟨tt, dd⟩ := aa
        simp only at hat hdf
        subst hat hdf
        clear hsz hout hall
        clear HH HP HE HFB HPB
        go_wp2_with fail
        go_ret
        exact ⟨by rw [HK.out]; simp [H1.out], HBW.out.trans (hW.mono HBW.out.size)⟩
  · have e1 : ((er : Int) == 0) = false := by simp; omega
    have H1 := hd h1
    clear h1
    · skip
      refine region_skip (fun i9 v9 _ => match i9 with
        | 0 => v9 = Value.int IntKind.i64 (er : Int)
        | 1 => v9 = .bool false
        | 2 => v9 = .bool false
        | 3 => v9 = undef
        | 4 => v9 = undef
        | 5 => v9 = .bool false
        | 6 => v9 = .bool false
        | 7 => v9 = undef
        | 8 => v9 = undef
        | 9 => v9 = undef
        | 10 => v9 = undef
        | 11 => v9 = undef
        | 12 => v9 = undef
        | 13 => v9 = undef
        | 14 => v9 = undef
        | 15 => v9 = .bool false
        | _ => v9 = .bool false) (fun w => Below Wr.heap.size Wr w) hmx (by kernel_rfl) (by kernel_rfl) ((Below.refl _ _).drew) ?_ ?_ ?_
      · intro i9 v9 w8 w9 _ _ hb hG
        match i9, hG with
        | 0, h => exact h
        | 1, h => exact h
        | 2, h => exact h
        | 3, h => exact h
        | 4, h => exact h
        | 5, h => exact h
        | 6, h => exact h
        | 7, h => exact h
        | 8, h => exact h
        | 9, h => exact h
        | 10, h => exact h
        | 11, h => exact h
        | 12, h => exact h
        | 13, h => exact h
        | 14, h => exact h
        | 15, h => exact h
        | n + 16, h => exact h
      · intro i9 o9 ho a9 w9 hW hdf hsz hout haf
        have ee7 := getq (show a9.tmps.getD 7 undef = Value.int IntKind.i64 (er : Int) from hout 7 (notDst_spec (by kernel_rfl)))
        have hsz2 : a9.tmps.size = 32 := hsz
        clear hout hsz hdf
        match i9, ho, haf with
        | 0, ho, haf =>
          obtain rfl := Option.some.inj ho
          refine skip_good _ (wanted_none rfl) ?_
          clear haf ho hsz2
          intro K hK
          simp only [List.getElem_toArray, List.getElem_cons_zero] at hK ⊢
          go_simp
          exact hK _ _ ⟨Below.refl _ _, hW, rfl⟩
        | 1, ho, haf =>
          obtain rfl := Option.some.inj ho
          have f0 := getq (show a9.tmps.getD 16 undef = Value.int IntKind.i64 (er : Int) from haf ⟨0, .data⟩ (by simp) rfl)
          refine skip_good _ (wanted_none rfl) ?_
          clear haf ho hsz2
          intro K hK
          simp only [List.getElem_toArray, List.getElem_cons_succ, List.getElem_cons_zero] at hK ⊢
          go_simp
          exact hK _ _ ⟨Below.refl _ _, hW, rfl⟩
        | 2, ho, haf =>
          obtain rfl := Option.some.inj ho
          have f1 := getq (show a9.tmps.getD 17 undef = .bool false from haf ⟨1, .data⟩ (by simp) rfl)
          refine skip_good _ (wanted_none rfl) ?_
          clear haf ho hsz2
          intro K hK
          simp only [List.getElem_toArray, List.getElem_cons_succ, List.getElem_cons_zero] at hK ⊢
          go_simp
          exact hK _ _ ⟨Below.refl _ _, hW, rfl⟩
        | 3, ho, haf =>
          obtain rfl := Option.some.inj ho
          have gg : a9.tmps.getD 18 undef = .bool false := haf ⟨2, .guard⟩ (by simp) rfl
          exact skip_no (b := false) rfl (yielded_of (d := 18) rfl (by omega) gg) rfl
        | 4, ho, haf =>
          obtain rfl := Option.some.inj ho
          have gg : a9.tmps.getD 18 undef = .bool false := haf ⟨2, .guard⟩ (by simp) rfl
          exact skip_no (b := false) rfl (yielded_of (d := 18) rfl (by omega) gg) rfl
        | 5, ho, haf =>
          obtain rfl := Option.some.inj ho
          have f2 := getq (show a9.tmps.getD 18 undef = .bool false from haf ⟨2, .data⟩ (by simp) rfl)
          have f4 := getq (show a9.tmps.getD 20 undef = undef from haf ⟨4, .data⟩ (by simp) rfl)
          refine skip_good _ (wanted_none rfl) ?_
          clear haf ho hsz2
          intro K hK
          simp only [List.getElem_toArray, List.getElem_cons_succ, List.getElem_cons_zero] at hK ⊢
          go_simp
          exact hK _ _ ⟨Below.refl _ _, hW, rfl⟩
        | 6, ho, haf =>
          obtain rfl := Option.some.inj ho
          have f5 := getq (show a9.tmps.getD 21 undef = .bool false from haf ⟨5, .data⟩ (by simp) rfl)
          refine skip_good _ (wanted_none rfl) ?_
          clear haf ho hsz2
          intro K hK
          simp only [List.getElem_toArray, List.getElem_cons_succ, List.getElem_cons_zero] at hK ⊢
          go_simp
          exact hK _ _ ⟨Below.refl _ _, hW, rfl⟩
        | 7, ho, haf =>
          obtain rfl := Option.some.inj ho
          have gg : a9.tmps.getD 22 undef = .bool false := haf ⟨6, .guard⟩ (by simp) rfl
          exact skip_no (b := false) rfl (yielded_of (d := 22) rfl (by omega) gg) rfl
        | 8, ho, haf =>
          obtain rfl := Option.some.inj ho
          have gg : a9.tmps.getD 22 undef = .bool false := haf ⟨6, .guard⟩ (by simp) rfl
          exact skip_no (b := false) rfl (yielded_of (d := 22) rfl (by omega) gg) rfl
        | 9, ho, haf =>
          obtain rfl := Option.some.inj ho
          have gg : a9.tmps.getD 22 undef = .bool false := haf ⟨6, .guard⟩ (by simp) rfl
          exact skip_no (b := false) rfl (yielded_of (d := 22) rfl (by omega) gg) rfl
        | 10, ho, haf =>
          obtain rfl := Option.some.inj ho
          have gg : a9.tmps.getD 22 undef = .bool false := haf ⟨6, .guard⟩ (by simp) rfl
          exact skip_no (b := false) rfl (yielded_of (d := 22) rfl (by omega) gg) rfl
        | 11, ho, haf =>
          obtain rfl := Option.some.inj ho
          have gg : a9.tmps.getD 22 undef = .bool false := haf ⟨6, .guard⟩ (by simp) rfl
          exact skip_no (b := false) rfl (yielded_of (d := 22) rfl (by omega) gg) rfl
        | 12, ho, haf =>
          obtain rfl := Option.some.inj ho
          have gg : a9.tmps.getD 22 undef = .bool false := haf ⟨6, .guard⟩ (by simp) rfl
          exact skip_no (b := false) rfl (yielded_of (d := 22) rfl (by omega) gg) rfl
        | 13, ho, haf =>
          obtain rfl := Option.some.inj ho
          have gg : a9.tmps.getD 22 undef = .bool false := haf ⟨6, .guard⟩ (by simp) rfl
          exact skip_no (b := false) rfl (yielded_of (d := 22) rfl (by omega) gg) rfl
        | 14, ho, haf =>
          obtain rfl := Option.some.inj ho
          have gg : a9.tmps.getD 22 undef = .bool false := haf ⟨6, .guard⟩ (by simp) rfl
          exact skip_no (b := false) rfl (yielded_of (d := 22) rfl (by omega) gg) rfl
        | 15, ho, haf =>
          obtain rfl := Option.some.inj ho
          have f6 := getq (show a9.tmps.getD 22 undef = .bool false from haf ⟨6, .data⟩ (by simp) rfl)
          have f14 := getq (show a9.tmps.getD 30 undef = undef from haf ⟨14, .data⟩ (by simp) rfl)
          refine skip_good _ (wanted_none rfl) ?_
          clear haf ho hsz2
          intro K hK
          simp only [List.getElem_toArray, List.getElem_cons_succ, List.getElem_cons_zero] at hK ⊢
          go_simp
          exact hK _ _ ⟨Below.refl _ _, hW, rfl⟩
        | 16, ho, haf =>
          obtain rfl := Option.some.inj ho
          have f15 := getq (show a9.tmps.getD 31 undef = .bool false from haf ⟨15, .data⟩ (by simp) rfl)
          refine skip_good _ (wanted_none rfl) ?_
          clear haf ho hsz2
          intro K hK
          simp only [List.getElem_toArray, List.getElem_cons_succ, List.getElem_cons_zero] at hK ⊢
          go_simp
          exact hK _ _ ⟨Below.refl _ _, hW, rfl⟩
        | n + 17, ho, haf => simp at ho
      · intro aa w9 hW hdf hsz hout hall
        have hat : aa.tmps = #[Value.slice a l.length c, Value.agg #[Value.int IntKind.u64 (p1 : Int), Value.int IntKind.i64 p2, Value.int IntKind.i64 p3, Value.int IntKind.i64 p4, Value.string p5], undef, Value.pointer (some { block := w.heap.size, off := 0 }), .bool false, Value.pointer (some { block := w1.heap.size, off := 0 }), Value.int IntKind.i64 (q : Int), Value.int IntKind.i64 (er : Int), Value.tuple #[Value.agg #[Value.int IntKind.i64 k, Value.int IntKind.u64 (rl : Int), Value.int IntKind.i64 rk, Value.string rkey, Value.string rval, Value.int IntKind.u64 (pl : Int), Value.int IntKind.i64 pk, Value.int IntKind.i64 pa, Value.int IntKind.i64 pn, Value.string pkey, Value.int IntKind.i64 ec, Value.int IntKind.i64 eb, Value.int IntKind.i64 ef, Value.int IntKind.u32 (es : Int)], Value.int IntKind.i64 (q : Int), Value.int IntKind.i64 (er : Int)], Value.slice a l.length c, Value.pointer (some { block := w.heap.size, off := 2 }), Value.int IntKind.i64 p3, Value.tuple #[Value.agg #[Value.int IntKind.i64 k, Value.int IntKind.u64 (rl : Int), Value.int IntKind.i64 rk, Value.string rkey, Value.string rval, Value.int IntKind.u64 (pl : Int), Value.int IntKind.i64 pk, Value.int IntKind.i64 pa, Value.int IntKind.i64 pn, Value.string pkey, Value.int IntKind.i64 ec, Value.int IntKind.i64 eb, Value.int IntKind.i64 ef, Value.int IntKind.u32 (es : Int)], Value.int IntKind.i64 (q : Int), Value.int IntKind.i64 (er : Int)], Value.agg #[Value.int IntKind.i64 k, Value.int IntKind.u64 (rl : Int), Value.int IntKind.i64 rk, Value.string rkey, Value.string rval, Value.int IntKind.u64 (pl : Int), Value.int IntKind.i64 pk, Value.int IntKind.i64 pa, Value.int IntKind.i64 pn, Value.string pkey, Value.int IntKind.i64 ec, Value.int IntKind.i64 eb, Value.int IntKind.i64 ef, Value.int IntKind.u32 (es : Int)], Value.int IntKind.i64 (q : Int), Value.int IntKind.i64 (er : Int), Value.int IntKind.i64 (er : Int), .bool false, .bool false, undef, undef, .bool false, .bool false, undef, undef, undef, undef, undef, undef, undef, undef, .bool false] := by
          refine arr_one (hsz.trans rfl) fun kk hkk => ?_
          match kk, hkk with
          | 0, _ => exact hout 0 (notDst_spec (by kernel_rfl))
          | 1, _ => exact hout 1 (notDst_spec (by kernel_rfl))
          | 2, _ => exact hout 2 (notDst_spec (by kernel_rfl))
          | 3, _ => exact hout 3 (notDst_spec (by kernel_rfl))
          | 4, _ => exact hall 16 (by decide)
          | 5, _ => exact hout 5 (notDst_spec (by kernel_rfl))
          | 6, _ => exact hout 6 (notDst_spec (by kernel_rfl))
          | 7, _ => exact hout 7 (notDst_spec (by kernel_rfl))
          | 8, _ => exact hout 8 (notDst_spec (by kernel_rfl))
          | 9, _ => exact hout 9 (notDst_spec (by kernel_rfl))
          | 10, _ => exact hout 10 (notDst_spec (by kernel_rfl))
          | 11, _ => exact hout 11 (notDst_spec (by kernel_rfl))
          | 12, _ => exact hout 12 (notDst_spec (by kernel_rfl))
          | 13, _ => exact hout 13 (notDst_spec (by kernel_rfl))
          | 14, _ => exact hout 14 (notDst_spec (by kernel_rfl))
          | 15, _ => exact hout 15 (notDst_spec (by kernel_rfl))
          | 16, _ => exact hall 0 (by decide)
          | 17, _ => exact hall 1 (by decide)
          | 18, _ => exact hall 2 (by decide)
          | 19, _ => exact hall 3 (by decide)
          | 20, _ => exact hall 4 (by decide)
          | 21, _ => exact hall 5 (by decide)
          | 22, _ => exact hall 6 (by decide)
          | 23, _ => exact hall 7 (by decide)
          | 24, _ => exact hall 8 (by decide)
          | 25, _ => exact hall 9 (by decide)
          | 26, _ => exact hall 10 (by decide)
          | 27, _ => exact hall 11 (by decide)
          | 28, _ => exact hall 12 (by decide)
          | 29, _ => exact hall 13 (by decide)
          | 30, _ => exact hall 14 (by decide)
          | 31, _ => exact hall 15 (by decide)
          | n + 32, h => exact absurd h (by simp)
        obtain ⟨tt, dd⟩ := aa
        simp only at hat hdf
        subst hat hdf
        clear hsz hout hall
        clear HH HP HE HFB HPB
        go_wp2_with fail
        go_ret
        exact ⟨by rw [HK.out]; simp [H1.out], HBW.out.trans (hW.mono HBW.out.size)⟩
end Vt
end Go.Proofs.Ytnjhbidialngmaa
namespace Go.Proofs.Ytnjhbidialngmaa
open Go.RowKit
namespace Vt
attribute [local go_sem] Oper.semAt_some
set_option maxRecDepth 100000 in
set_option maxHeartbeats 1000000 in
theorem r10_isRecord (f : Fr) (w : World) : Calls Try.prog 45 #[.agg (fv f)] w fun e w' => e = .returned (.bool (isRec f)) ∧ Below w.heap.size w w' := by
  obtain ⟨k, ⟨rl, rk, rkey, rval⟩, ⟨pl, pk, pa, pn, pkey⟩, ⟨ec, eb, ef, es⟩⟩ := f
  simp only [fv]
  by_cases h1 : k = 1
  · subst h1
    go_enter Try.func45, Try.ntmps45
    go_wp2
    go_ret
    exact ⟨rfl, (Below.refl _ _).alloc (Nat.le_refl _) _⟩
  · by_cases h2 : k = 2
    · subst h2
      go_enter Try.func45, Try.ntmps45
      go_wp2
      go_ret
      exact ⟨rfl, (Below.refl _ _).alloc (Nat.le_refl _) _⟩
    · have e1 : (k == 1) = false := by simp [h1]
      have e2 : (k == 2) = false := by simp [h2]
      have HR := hd (show isRec ⟨k, ⟨rl, rk, rkey, rval⟩, ⟨pl, pk, pa, pn, pkey⟩, ⟨ec, eb, ef, es⟩⟩ = false by unfold isRec; simp [h1, h2])
      go_enter Try.func45, Try.ntmps45
      go_wp2
      go_ret
      exact ⟨by rw [HR.out]; rfl, (Below.refl _ _).alloc (Nat.le_refl _) _⟩
end Vt
end Go.Proofs.Ytnjhbidialngmaa
