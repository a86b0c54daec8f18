/-
  hint.Load: the pointers, and the verdict.
  hint.Check: does a record stand where a pointer says?
  A RANGE OVER AN ITERATOR THAT ITSELF RANGES OVER ANOTHER ONE AND YIELDS WITHIN (scan.Frames over located): a contract of one's own ('SeqX': X are the iterator's own blocks; the caller's invariant abides whatever is done to these, and to what is no cells and lies beyond the caller's beginning) and the caller's law over it.
-/
import Derived.Test.YtlddogigbodilaaMbh
import Derived.Test.YtlddogigbodilaaMbg
import Derived.Test.YtlddogigbodilaaMae
namespace Go.Proofs.Ytlddogigbodilaa
open Go.RowKit Go.Shelf
namespace Vt
attribute [local go_sem] Oper.semAt_some
theorem eq_prt (n k : Int) (s : Nat) (w : World) : (Op.equalIn 10000 37 (.agg (prl n k s)) (.agg (prl n k s))).run Try.prog w = .ok true w := by
  unfold prl
  simp [go_sem, Op.eqFields]
theorem ne_prt {n k n' k' : Int} {s s' : Nat} (h : ¬ (n = n' ∧ k = k' ∧ s = s')) (w : World) : (Op.equalIn 10000 37 (.agg (prl n k s)) (.agg (prl n' k' s'))).run Try.prog w = .ok false w := by
  unfold prl
  simp [go_sem, Op.eqFields]
  intro h1 h2 h3
  exact h ⟨h1, h2, by omega⟩
theorem neq_prt_no (n k : Int) (s : Nat) (w : World) : (binOp .neq 37 (.agg (prl n k s)) (.agg (prl n k s))).run Try.prog w = .ok (.bool false) w := by
  rw [run_neq_struct, eq_prt]; rfl
theorem neq_prt_yes {n k n' k' : Int} {s s' : Nat} (h : ¬ (n = n' ∧ k = k' ∧ s = s')) (w : World) : (binOp .neq 37 (.agg (prl n k s)) (.agg (prl n' k' s'))).run Try.prog w = .ok (.bool true) w := by
  rw [run_neq_struct, ne_prt h]; rfl
/-- what Load tells -/
def ldP (o : Option St) (bp fp : Int) (sp : Nat) (n : Nat) (e : Ending) (w' : World) : Prop := match o with
  | some s => (¬ (s.e.bytes = bp ∧ s.e.frames = fp ∧ s.e.sum = sp) ∧ e = .returned (.tuple #[.slice none 0 0, .int .i64 3])) ∨ ((s.e.bytes = bp ∧ s.e.frames = fp ∧ s.e.sum = sp) ∧ ∃ u, e = .returned (.tuple #[u, .int .i64 1]) ∧ JPt w' n u (s.ps.map pvl))
  | none => e = .returned (.tuple #[.slice none 0 0, .int .i64 4])
set_option maxRecDepth 100000 in
set_option maxHeartbeats 2000000 in
theorem load_is (v : Value) (l : List Nat) (bp fp : Int) (sp : Nat) (w : World) (hI : IsB w v l) :
    Calls Try.prog 32 #[v, .agg (prl bp fp sp)] w fun e w' => ldP (ldS l) bp fp sp w.heap.size e w' ∧ Below w.heap.size w w' := by
  have HP : Hid (∀ w', Below w.heap.size w w' → Calls Try.prog 54 #[v] w' fun e w'' => ptsP (ldS l) w'.heap.size e w'' ∧ Below w'.heap.size w' w'') := fun w' h => parts_is v l w' (hI.below h)
  obtain ⟨a, c, rfl⟩ := hI.shape
  clear hI
  generalize ldS l = o at *
  simp only [prl]
  go_enter Try.func32, Try.ntmps32
  go_wp2_with fail
  refine Calls.mono (HP.out _ ((Below.refl _ _).alloc (Nat.le_refl _) _)) ?_
  clear HP
  rintro e w1 ⟨hpt, hb⟩
  have HPW := hd ((Blk.new w 37 _).keep hb)
  have HB := hd (below_alloc1 hb)
  have hsz := hb.size
  rw [World.size_alloc] at hsz
  clear hb
  have p0 := HPW.out.cell 0 _ rfl
  have p1 := HPW.out.cell 1 _ rfl
  have p2 := HPW.out.cell 2 _ rfl
  have n1 : ¬ w.heap.size = w1.heap.size := by omega
  have n2 : ¬ w1.heap.size = w.heap.size := by omega
  have n3 : w.heap.size < w1.heap.size := by omega
  cases o with
  | none =>
    obtain rfl : e = _ := hpt
    simp only [prl]
    go_wp2_with fail
    go_ret2
    exact ⟨rfl, HB.out.alloc HB.out.size _⟩
  | some s =>
    obtain ⟨u, rfl, hj⟩ := hpt
    obtain ⟨sp_, ⟨ec, eb, ef, es⟩, en_, nx_⟩ := s
    simp only [prl] at hj ⊢
    have HJ := hd hj
    clear hj
    by_cases hq : eb = bp ∧ ef = fp ∧ es = sp
    · obtain ⟨rfl, rfl, rfl⟩ := hq
      have heq := neq_prt_no eb ef es
      simp only [prl] at heq
      go_wp2_with fail
      go_ret2
      exact ⟨.inr ⟨⟨rfl, rfl, rfl⟩, _, rfl, (HJ.out.alloc _).lower (by simp)⟩, HB.out.alloc HB.out.size _⟩
    · have heq := neq_prt_yes hq
      simp only [prl] at heq
      have HQ := hd hq
      clear hq
      go_wp2_with fail
      go_ret2
      exact ⟨.inl ⟨HQ.out, rfl⟩, HB.out.alloc HB.out.size _⟩
end Vt
end Go.Proofs.Ytlddogigbodilaa
namespace Go.Proofs.Ytlddogigbodilaa
open Go.RowKit Go.Shelf
namespace Vt
attribute [local go_sem] Oper.semAt_some
theorem bytes_eq {a b : ByteArray} (e : a.toList = b.toList) : a = b := by
  rw [ByteArray.toList_eq, ByteArray.toList_eq] at e
  exact Go.WideShapes.bytes_inj e
theorem eq_ptr (p : Ptr) (w : World) : (Op.equalIn 10000 34 (.agg (pv p)) (.agg (pv p))).run Try.prog w = .ok true w := by
  unfold pv
  simp [go_sem, Op.eqFields]
theorem ne_ptr {p q : Ptr} (h : p ≠ q) (w : World) : (Op.equalIn 10000 34 (.agg (pv p)) (.agg (pv q))).run Try.prog w = .ok false w := by
  obtain ⟨a1, a2, a3, a4, a5⟩ := p
  obtain ⟨b1, b2, b3, b4, b5⟩ := q
  unfold pv
  simp [go_sem, Op.eqFields]
  intro h1 h2 h3 h4 h5
  obtain rfl : a1 = b1 := by omega
  exact h (by rw [h2, h3, h4, bytes_eq h5])
open Classical in
theorem eql_ptr (p q : Ptr) (w : World) : (binOp .eql 34 (.agg (pv p)) (.agg (pv q))).run Try.prog w = .ok (.bool (decide (p = q))) w := by
  by_cases h : p = q
  · subst h; rw [run_eql_struct, eq_ptr]; simp
  · rw [run_eql_struct, ne_ptr h, decide_eq_false h]; rfl
open Classical in
/-- does a record stand where a pointer says? -/
noncomputable def chk (l : List Nat) (p : Ptr) : Bool := decide ((decF l p.at_).2.2 = 0 ∧ isRec (decF l p.at_).1 = true ∧ p = ptr (decF l p.at_).1 p.at_ ((decF l p.at_).2.1 : Int))
open Classical in
set_option maxRecDepth 100000 in
set_option maxHeartbeats 2000000 in
theorem check_is (v : Value) (l : List Nat) (p : Ptr) (w : World) (hI : IsB w v l) :
    Calls Try.prog 41 #[v, .agg (pv p)] w fun e w' => e = .returned (.bool (chk l p)) ∧ Below w.heap.size w w' := by
  have hmx : Try.prog.follows .mixedOrders = true := by kernel_rfl
  obtain ⟨a, c, rfl⟩ := hI.shape
  have HC : Hid (∀ w', Below w.heap.size w w' → Calls Try.prog 66 #[.slice a l.length c, .int .i64 p.at_] w' fun e w'' => e = .returned (dval (decF l p.at_)) ∧ Below w'.heap.size w' w'') := fun w' h => decode_all _ l p.at_ w' (hI.below h)
  obtain ⟨f, q, er, hdd⟩ : ∃ f q er, decF l p.at_ = (f, q, er) := ⟨_, _, _, rfl⟩
  have HH := hd (hasRecord_is f)
  have HP := hd (pointerTo_is f p.at_ (q : Int))
  have HE := hd (eql_ptr p (ptr f p.at_ (q : Int)))
  have hk : chk l p = (decide (er = 0) && isRec f && decide (p = ptr f p.at_ (q : Int))) := by unfold chk; rw [hdd]; simp [Bool.and_assoc]
  obtain ⟨bP, hbP⟩ : ∃ b, b = decide (p = ptr f p.at_ (q : Int)) := ⟨_, rfl⟩
  obtain ⟨bR, hbR⟩ : ∃ b, b = isRec f := ⟨_, rfl⟩
  rw [← hbP, ← hbR] at hk
  rw [← hbP] at HE
  rw [← hbR] at HH
  rw [hdd] at HC
  have HK := hd hk
  obtain ⟨bc, hbc⟩ : ∃ b, b = chk l p := ⟨_, rfl⟩
  rw [← hbc] at HK ⊢
  clear hdd hI hk hbP hbR hbc
  obtain ⟨p1, p2, p3, p4, p5⟩ := p
  obtain ⟨k, ⟨rl, rk, rkey, rval⟩, ⟨pl, pk, pa, pn, pkey⟩, ⟨ec, eb, ef, es⟩⟩ := f
  simp only [pv, dval, fv, lfv, ptr] at HC HH HP HE ⊢
  go_enter Try.func41, Try.ntmps41
  go_wp2_with fail
  refine Calls.mono (HC.out _ ((Below.refl _ _).alloc (Nat.le_refl _) _)) ?_
  rintro e w1 ⟨rfl, hb⟩
  have HB := hd (below_alloc1 hb)
  have HPW := hd ((Blk.new w 34 _).keep hb)
  have hsz := hb.size
  rw [World.size_alloc] at hsz
  clear hb HC
  go_wp2_with fail
  obtain ⟨Wr, hWr⟩ : ∃ Wr, Wr = w1.alloc (.cells #[.int .i64 k, .int .u64 (rl : Int), .int .i64 rk, .string rkey, .string rval, .int .u64 (pl : Int), .int .i64 pk, .int .i64 pa, .int .i64 pn, .string pkey, .int .i64 ec, .int .i64 eb, .int .i64 ef, .int .u32 (es : Int)] 41) := ⟨_, rfl⟩
  have HBW : Hid (Below w.heap.size w Wr) := by rw [hWr]; exact HB.out.alloc HB.out.size _
  have HFB : Hid (∀ w9, Below Wr.heap.size Wr w9 → Blk w9 w1.heap.size 41 [.int .i64 k, .int .u64 (rl : Int), .int .i64 rk, .string rkey, .string rval, .int .u64 (pl : Int), .int .i64 pk, .int .i64 pa, .int .i64 pn, .string pkey, .int .i64 ec, .int .i64 eb, .int .i64 ef, .int .u32 (es : Int)]) := fun w9 h => Blk.keep (by rw [hWr]; exact Blk.new w1 41 _) h
  have HPB : Hid (∀ w9, Below Wr.heap.size Wr w9 → Blk w9 w.heap.size 34 [.int .u64 (p1 : Int), .int .i64 p2, .int .i64 p3, .int .i64 p4, .string p5]) := fun w9 h => Blk.keep (by rw [hWr]; exact HPW.out.alloc _) h
  rw [← hWr]
  clear hWr HB HPW hsz
  by_cases h1 : er = 0
  · have e1 : ((er : Int) == 0) = true := by simp; omega
    have H1 := hd h1
    clear h1
    cases bR with
    | true =>
      refine region_skip (fun i9 v9 _ => match i9 with
        | 0 => v9 = Value.int IntKind.i64 (er : Int)
        | 1 => v9 = .bool true
        | 2 => v9 = .bool true
        | 3 => v9 = .agg #[.int .i64 k, .int .u64 (rl : Int), .int .i64 rk, .string rkey, .string rval, .int .u64 (pl : Int), .int .i64 pk, .int .i64 pa, .int .i64 pn, .string pkey, .int .i64 ec, .int .i64 eb, .int .i64 ef, .int .u32 (es : Int)]
        | 4 => v9 = .bool true
        | 5 => v9 = .bool true
        | 6 => v9 = .bool true
        | 7 => v9 = .agg #[.int .u64 (p1 : Int), .int .i64 p2, .int .i64 p3, .int .i64 p4, .string p5]
        | 8 => v9 = .agg #[.int .i64 k, .int .u64 (rl : Int), .int .i64 rk, .string rkey, .string rval, .int .u64 (pl : Int), .int .i64 pk, .int .i64 pa, .int .i64 pn, .string pkey, .int .i64 ec, .int .i64 eb, .int .i64 ef, .int .u32 (es : Int)]
        | 9 => v9 = .pointer (some ⟨w.heap.size, 2, none⟩)
        | 10 => v9 = .int .i64 p3
        | 11 => v9 = Value.int IntKind.i64 (q : Int)
        | 12 => v9 = .agg #[.int .i64 k, .int .u64 (rl : Int), .int .i64 rk, .string rkey, .string rval, .int .u64 (pl : Int), .int .i64 pk, .int .i64 pa, .int .i64 pn, .string pkey, .int .i64 ec, .int .i64 eb, .int .i64 ef, .int .u32 (es : Int), .int .i64 p3, .int .i64 (q : Int)]
        | 13 => v9 = .agg #[.int .u64 (rl : Int), .int .i64 rk, .int .i64 p3, .int .i64 (q : Int), .string rkey]
        | 14 => v9 = .bool bP
        | 15 => v9 = .bool bP
        | _ => v9 = .bool bP) (fun w => Below Wr.heap.size Wr w) hmx (by kernel_rfl) (by kernel_rfl) ((Below.refl _ _).drew) ?_ ?_ ?_
      · intro i9 v9 w8 w9 _ _ hb hG
        match i9, hG with
        | 0, h => exact h
        | 1, h => exact h
        | 2, h => exact h
        | 3, h => exact h
        | 4, h => exact h
        | 5, h => exact h
        | 6, h => exact h
        | 7, h => exact h
        | 8, h => exact h
        | 9, h => exact h
        | 10, h => exact h
        | 11, h => exact h
        | 12, h => exact h
        | 13, h => exact h
        | 14, h => exact h
        | 15, h => exact h
        | n + 16, h => exact h
      · intro i9 o9 ho a9 w9 hW hdf hsz hout haf
        have ee3 := getq (show a9.tmps.getD 3 undef = Value.pointer (some { block := w.heap.size, off := 0 }) from hout 3 (notDst_spec (by kernel_rfl)))
        have ee5 := getq (show a9.tmps.getD 5 undef = Value.pointer (some { block := w1.heap.size, off := 0 }) from hout 5 (notDst_spec (by kernel_rfl)))
        have ee6 := getq (show a9.tmps.getD 6 undef = Value.int IntKind.i64 (q : Int) from hout 6 (notDst_spec (by kernel_rfl)))
        have ee7 := getq (show a9.tmps.getD 7 undef = Value.int IntKind.i64 (er : Int) from hout 7 (notDst_spec (by kernel_rfl)))
        have hsz2 : a9.tmps.size = 32 := hsz
        clear hout hsz hdf
        match i9, ho, haf with
        | 0, ho, haf =>
          obtain rfl := Option.some.inj ho
          refine skip_good _ (wanted_none rfl) ?_
          clear haf ho hsz2
          intro K hK
          simp only [List.getElem_toArray, List.getElem_cons_zero] at hK ⊢
          go_simp
          exact hK _ _ ⟨Below.refl _ _, hW, rfl⟩
        | 1, ho, haf =>
          obtain rfl := Option.some.inj ho
          have f0 := getq (show a9.tmps.getD 16 undef = Value.int IntKind.i64 (er : Int) from haf ⟨0, .data⟩ (by simp) rfl)
          refine skip_good _ (wanted_none rfl) ?_
          clear haf ho hsz2
          intro K hK
          simp only [List.getElem_toArray, List.getElem_cons_succ, List.getElem_cons_zero] at hK ⊢
          go_simp
          exact hK _ _ ⟨Below.refl _ _, hW, rfl⟩
        | 2, ho, haf =>
          obtain rfl := Option.some.inj ho
          have f1 := getq (show a9.tmps.getD 17 undef = .bool true from haf ⟨1, .data⟩ (by simp) rfl)
          refine skip_good _ (wanted_none rfl) ?_
          clear haf ho hsz2
          intro K hK
          simp only [List.getElem_toArray, List.getElem_cons_succ, List.getElem_cons_zero] at hK ⊢
          go_simp
          exact hK _ _ ⟨Below.refl _ _, hW, rfl⟩
        | 3, ho, haf =>
          obtain rfl := Option.some.inj ho
          have gg : a9.tmps.getD 18 undef = .bool true := haf ⟨2, .guard⟩ (by simp) rfl
          refine skip_good _ (wanted_some rfl (yielded_of (d := 18) rfl (by omega) gg)) ?_
          clear haf ho hsz2 gg
          intro K hK
          simp only [List.getElem_toArray, List.getElem_cons_succ, List.getElem_cons_zero] at hK ⊢
          have t0 := (HFB.out w9 hW).cell 0 _ rfl
          have t1 := (HFB.out w9 hW).cell 1 _ rfl
          have t2 := (HFB.out w9 hW).cell 2 _ rfl
          have t3 := (HFB.out w9 hW).cell 3 _ rfl
          have t4 := (HFB.out w9 hW).cell 4 _ rfl
          have t5 := (HFB.out w9 hW).cell 5 _ rfl
          have t6 := (HFB.out w9 hW).cell 6 _ rfl
          have t7 := (HFB.out w9 hW).cell 7 _ rfl
          have t8 := (HFB.out w9 hW).cell 8 _ rfl
          have t9 := (HFB.out w9 hW).cell 9 _ rfl
          have t10 := (HFB.out w9 hW).cell 10 _ rfl
          have t11 := (HFB.out w9 hW).cell 11 _ rfl
          have t12 := (HFB.out w9 hW).cell 12 _ rfl
          have t13 := (HFB.out w9 hW).cell 13 _ rfl
          go_simp
          exact hK _ _ ⟨Below.refl _ _, hW, rfl⟩
        | 4, ho, haf =>
          obtain rfl := Option.some.inj ho
          have gg : a9.tmps.getD 18 undef = .bool true := haf ⟨2, .guard⟩ (by simp) rfl
          have f3 := getq (show a9.tmps.getD 19 undef = .agg #[.int .i64 k, .int .u64 (rl : Int), .int .i64 rk, .string rkey, .string rval, .int .u64 (pl : Int), .int .i64 pk, .int .i64 pa, .int .i64 pn, .string pkey, .int .i64 ec, .int .i64 eb, .int .i64 ef, .int .u32 (es : Int)] from haf ⟨3, .data⟩ (by simp) rfl)
          refine skip_good _ (wanted_some rfl (yielded_of (d := 18) rfl (by omega) gg)) ?_
          clear haf ho hsz2 gg
          intro K hK
          simp only [List.getElem_toArray, List.getElem_cons_succ, List.getElem_cons_zero] at hK ⊢
          go_simp
          refine Calls.mono (HH.out _) ?_
          rintro e9 w8 ⟨rfl, hb9⟩
          exact hK _ _ ⟨hb9, hW.trans (hb9.mono hW.size), rfl⟩
        | 5, ho, haf =>
          obtain rfl := Option.some.inj ho
          have f2 := getq (show a9.tmps.getD 18 undef = .bool true from haf ⟨2, .data⟩ (by simp) rfl)
          have f4 := getq (show a9.tmps.getD 20 undef = .bool true from haf ⟨4, .data⟩ (by simp) rfl)
          refine skip_good _ (wanted_none rfl) ?_
          clear haf ho hsz2
          intro K hK
          simp only [List.getElem_toArray, List.getElem_cons_succ, List.getElem_cons_zero] at hK ⊢
          go_simp
          exact hK _ _ ⟨Below.refl _ _, hW, rfl⟩
        | 6, ho, haf =>
          obtain rfl := Option.some.inj ho
          have f5 := getq (show a9.tmps.getD 21 undef = .bool true from haf ⟨5, .data⟩ (by simp) rfl)
          refine skip_good _ (wanted_none rfl) ?_
          clear haf ho hsz2
          intro K hK
          simp only [List.getElem_toArray, List.getElem_cons_succ, List.getElem_cons_zero] at hK ⊢
          go_simp
          exact hK _ _ ⟨Below.refl _ _, hW, rfl⟩
        | 7, ho, haf =>
          obtain rfl := Option.some.inj ho
          have gg : a9.tmps.getD 22 undef = .bool true := haf ⟨6, .guard⟩ (by simp) rfl
          refine skip_good _ (wanted_some rfl (yielded_of (d := 22) rfl (by omega) gg)) ?_
          clear haf ho hsz2 gg
          intro K hK
          simp only [List.getElem_toArray, List.getElem_cons_succ, List.getElem_cons_zero] at hK ⊢
          have t0 := (HPB.out w9 hW).cell 0 _ rfl
          have t1 := (HPB.out w9 hW).cell 1 _ rfl
          have t2 := (HPB.out w9 hW).cell 2 _ rfl
          have t3 := (HPB.out w9 hW).cell 3 _ rfl
          have t4 := (HPB.out w9 hW).cell 4 _ rfl
          go_simp
          exact hK _ _ ⟨Below.refl _ _, hW, rfl⟩
        | 8, ho, haf =>
          obtain rfl := Option.some.inj ho
          have gg : a9.tmps.getD 22 undef = .bool true := haf ⟨6, .guard⟩ (by simp) rfl
          refine skip_good _ (wanted_some rfl (yielded_of (d := 22) rfl (by omega) gg)) ?_
          clear haf ho hsz2 gg
          intro K hK
          simp only [List.getElem_toArray, List.getElem_cons_succ, List.getElem_cons_zero] at hK ⊢
          have t0 := (HFB.out w9 hW).cell 0 _ rfl
          have t1 := (HFB.out w9 hW).cell 1 _ rfl
          have t2 := (HFB.out w9 hW).cell 2 _ rfl
          have t3 := (HFB.out w9 hW).cell 3 _ rfl
          have t4 := (HFB.out w9 hW).cell 4 _ rfl
          have t5 := (HFB.out w9 hW).cell 5 _ rfl
          have t6 := (HFB.out w9 hW).cell 6 _ rfl
          have t7 := (HFB.out w9 hW).cell 7 _ rfl
          have t8 := (HFB.out w9 hW).cell 8 _ rfl
          have t9 := (HFB.out w9 hW).cell 9 _ rfl
          have t10 := (HFB.out w9 hW).cell 10 _ rfl
          have t11 := (HFB.out w9 hW).cell 11 _ rfl
          have t12 := (HFB.out w9 hW).cell 12 _ rfl
          have t13 := (HFB.out w9 hW).cell 13 _ rfl
          go_simp
          exact hK _ _ ⟨Below.refl _ _, hW, rfl⟩
        | 9, ho, haf =>
          obtain rfl := Option.some.inj ho
          have gg : a9.tmps.getD 22 undef = .bool true := haf ⟨6, .guard⟩ (by simp) rfl
          refine skip_good _ (wanted_some rfl (yielded_of (d := 22) rfl (by omega) gg)) ?_
          clear haf ho hsz2 gg
          intro K hK
          simp only [List.getElem_toArray, List.getElem_cons_succ, List.getElem_cons_zero] at hK ⊢
          go_simp
          exact hK _ _ ⟨Below.refl _ _, hW, rfl⟩
        | 10, ho, haf =>
          obtain rfl := Option.some.inj ho
          have gg : a9.tmps.getD 22 undef = .bool true := haf ⟨6, .guard⟩ (by simp) rfl
          have f9 := getq (show a9.tmps.getD 25 undef = .pointer (some ⟨w.heap.size, 2, none⟩) from haf ⟨9, .data⟩ (by simp) rfl)
          refine skip_good _ (wanted_some rfl (yielded_of (d := 22) rfl (by omega) gg)) ?_
          clear haf ho hsz2 gg
          intro K hK
          simp only [List.getElem_toArray, List.getElem_cons_succ, List.getElem_cons_zero] at hK ⊢
          have t0 := (HPB.out w9 hW).cell 0 _ rfl
          have t1 := (HPB.out w9 hW).cell 1 _ rfl
          have t2 := (HPB.out w9 hW).cell 2 _ rfl
          have t3 := (HPB.out w9 hW).cell 3 _ rfl
          have t4 := (HPB.out w9 hW).cell 4 _ rfl
          go_simp
          exact hK _ _ ⟨Below.refl _ _, hW, rfl⟩
        | 11, ho, haf =>
          obtain rfl := Option.some.inj ho
          have gg : a9.tmps.getD 22 undef = .bool true := haf ⟨6, .guard⟩ (by simp) rfl
          refine skip_good _ (wanted_some rfl (yielded_of (d := 22) rfl (by omega) gg)) ?_
          clear haf ho hsz2 gg
          intro K hK
          simp only [List.getElem_toArray, List.getElem_cons_succ, List.getElem_cons_zero] at hK ⊢
          go_simp
          exact hK _ _ ⟨Below.refl _ _, hW, rfl⟩
        | 12, ho, haf =>
          obtain rfl := Option.some.inj ho
          have gg : a9.tmps.getD 22 undef = .bool true := haf ⟨6, .guard⟩ (by simp) rfl
          have f8 := getq (show a9.tmps.getD 24 undef = .agg #[.int .i64 k, .int .u64 (rl : Int), .int .i64 rk, .string rkey, .string rval, .int .u64 (pl : Int), .int .i64 pk, .int .i64 pa, .int .i64 pn, .string pkey, .int .i64 ec, .int .i64 eb, .int .i64 ef, .int .u32 (es : Int)] from haf ⟨8, .data⟩ (by simp) rfl)
          have f10 := getq (show a9.tmps.getD 26 undef = .int .i64 p3 from haf ⟨10, .data⟩ (by simp) rfl)
          have f11 := getq (show a9.tmps.getD 27 undef = Value.int IntKind.i64 (q : Int) from haf ⟨11, .data⟩ (by simp) rfl)
          refine skip_good _ (wanted_some rfl (yielded_of (d := 22) rfl (by omega) gg)) ?_
          clear haf ho hsz2 gg
          intro K hK
          simp only [List.getElem_toArray, List.getElem_cons_succ, List.getElem_cons_zero] at hK ⊢
          go_simp
          exact hK _ _ ⟨Below.refl _ _, hW, rfl⟩
        | 13, ho, haf =>
          obtain rfl := Option.some.inj ho
          have gg : a9.tmps.getD 22 undef = .bool true := haf ⟨6, .guard⟩ (by simp) rfl
          have f12 := getq (show a9.tmps.getD 28 undef = .agg #[.int .i64 k, .int .u64 (rl : Int), .int .i64 rk, .string rkey, .string rval, .int .u64 (pl : Int), .int .i64 pk, .int .i64 pa, .int .i64 pn, .string pkey, .int .i64 ec, .int .i64 eb, .int .i64 ef, .int .u32 (es : Int), .int .i64 p3, .int .i64 (q : Int)] from haf ⟨12, .data⟩ (by simp) rfl)
          refine skip_good _ (wanted_some rfl (yielded_of (d := 22) rfl (by omega) gg)) ?_
          clear haf ho hsz2 gg
          intro K hK
          simp only [List.getElem_toArray, List.getElem_cons_succ, List.getElem_cons_zero] at hK ⊢
          go_simp
          refine Calls.mono (HP.out _) ?_
          rintro e9 w8 ⟨rfl, hb9⟩
          exact hK _ _ ⟨hb9, hW.trans (hb9.mono hW.size), rfl⟩
        | 14, ho, haf =>
          obtain rfl := Option.some.inj ho
          have gg : a9.tmps.getD 22 undef = .bool true := haf ⟨6, .guard⟩ (by simp) rfl
          have f7 := getq (show a9.tmps.getD 23 undef = .agg #[.int .u64 (p1 : Int), .int .i64 p2, .int .i64 p3, .int .i64 p4, .string p5] from haf ⟨7, .data⟩ (by simp) rfl)
          have f13 := getq (show a9.tmps.getD 29 undef = .agg #[.int .u64 (rl : Int), .int .i64 rk, .int .i64 p3, .int .i64 (q : Int), .string rkey] from haf ⟨13, .data⟩ (by simp) rfl)
          refine skip_good _ (wanted_some rfl (yielded_of (d := 22) rfl (by omega) gg)) ?_
          clear haf ho hsz2 gg
          intro K hK
          simp only [List.getElem_toArray, List.getElem_cons_succ, List.getElem_cons_zero] at hK ⊢
          have he := HE.out
          go_simp
          exact hK _ _ ⟨Below.refl _ _, hW, rfl⟩
        | 15, ho, haf =>
          obtain rfl := Option.some.inj ho
          have f6 := getq (show a9.tmps.getD 22 undef = .bool true from haf ⟨6, .data⟩ (by simp) rfl)
          have f14 := getq (show a9.tmps.getD 30 undef = .bool bP from haf ⟨14, .data⟩ (by simp) rfl)
          refine skip_good _ (wanted_none rfl) ?_
          clear haf ho hsz2
          intro K hK
          simp only [List.getElem_toArray, List.getElem_cons_succ, List.getElem_cons_zero] at hK ⊢
          go_simp
          exact hK _ _ ⟨Below.refl _ _, hW, rfl⟩
        | 16, ho, haf =>
          obtain rfl := Option.some.inj ho
          have f15 := getq (show a9.tmps.getD 31 undef = .bool bP from haf ⟨15, .data⟩ (by simp) rfl)
          refine skip_good _ (wanted_none rfl) ?_
          clear haf ho hsz2
          intro K hK
          simp only [List.getElem_toArray, List.getElem_cons_succ, List.getElem_cons_zero] at hK ⊢
          go_simp
          exact hK _ _ ⟨Below.refl _ _, hW, rfl⟩
        | n + 17, ho, haf => simp at ho
      · intro aa w9 hW hdf hsz hout hall
        have hat : aa.tmps = #[Value.slice a l.length c, Value.agg #[Value.int IntKind.u64 (p1 : Int), Value.int IntKind.i64 p2, Value.int IntKind.i64 p3, Value.int IntKind.i64 p4, Value.string p5], undef, Value.pointer (some { block := w.heap.size, off := 0 }), .bool bP, Value.pointer (some { block := w1.heap.size, off := 0 }), Value.int IntKind.i64 (q : Int), Value.int IntKind.i64 (er : Int), Value.tuple #[Value.agg #[Value.int IntKind.i64 k, Value.int IntKind.u64 (rl : Int), Value.int IntKind.i64 rk, Value.string rkey, Value.string rval, Value.int IntKind.u64 (pl : Int), Value.int IntKind.i64 pk, Value.int IntKind.i64 pa, Value.int IntKind.i64 pn, Value.string pkey, Value.int IntKind.i64 ec, Value.int IntKind.i64 eb, Value.int IntKind.i64 ef, Value.int IntKind.u32 (es : Int)], Value.int IntKind.i64 (q : Int), Value.int IntKind.i64 (er : Int)], Value.slice a l.length c, Value.pointer (some { block := w.heap.size, off := 2 }), Value.int IntKind.i64 p3, Value.tuple #[Value.agg #[Value.int IntKind.i64 k, Value.int IntKind.u64 (rl : Int), Value.int IntKind.i64 rk, Value.string rkey, Value.string rval, Value.int IntKind.u64 (pl : Int), Value.int IntKind.i64 pk, Value.int IntKind.i64 pa, Value.int IntKind.i64 pn, Value.string pkey, Value.int IntKind.i64 ec, Value.int IntKind.i64 eb, Value.int IntKind.i64 ef, Value.int IntKind.u32 (es : Int)], Value.int IntKind.i64 (q : Int), Value.int IntKind.i64 (er : Int)], Value.agg #[Value.int IntKind.i64 k, Value.int IntKind.u64 (rl : Int), Value.int IntKind.i64 rk, Value.string rkey, Value.string rval, Value.int IntKind.u64 (pl : Int), Value.int IntKind.i64 pk, Value.int IntKind.i64 pa, Value.int IntKind.i64 pn, Value.string pkey, Value.int IntKind.i64 ec, Value.int IntKind.i64 eb, Value.int IntKind.i64 ef, Value.int IntKind.u32 (es : Int)], Value.int IntKind.i64 (q : Int), Value.int IntKind.i64 (er : Int), Value.int IntKind.i64 (er : Int), .bool true, .bool true, .agg #[.int .i64 k, .int .u64 (rl : Int), .int .i64 rk, .string rkey, .string rval, .int .u64 (pl : Int), .int .i64 pk, .int .i64 pa, .int .i64 pn, .string pkey, .int .i64 ec, .int .i64 eb, .int .i64 ef, .int .u32 (es : Int)], .bool true, .bool true, .bool true, .agg #[.int .u64 (p1 : Int), .int .i64 p2, .int .i64 p3, .int .i64 p4, .string p5], .agg #[.int .i64 k, .int .u64 (rl : Int), .int .i64 rk, .string rkey, .string rval, .int .u64 (pl : Int), .int .i64 pk, .int .i64 pa, .int .i64 pn, .string pkey, .int .i64 ec, .int .i64 eb, .int .i64 ef, .int .u32 (es : Int)], .pointer (some ⟨w.heap.size, 2, none⟩), .int .i64 p3, Value.int IntKind.i64 (q : Int), .agg #[.int .i64 k, .int .u64 (rl : Int), .int .i64 rk, .string rkey, .string rval, .int .u64 (pl : Int), .int .i64 pk, .int .i64 pa, .int .i64 pn, .string pkey, .int .i64 ec, .int .i64 eb, .int .i64 ef, .int .u32 (es : Int), .int .i64 p3, .int .i64 (q : Int)], .agg #[.int .u64 (rl : Int), .int .i64 rk, .int .i64 p3, .int .i64 (q : Int), .string rkey], .bool bP, .bool bP] := by
          refine arr_one (hsz.trans rfl) fun kk hkk => ?_
          match kk, hkk with
          | 0, _ => exact hout 0 (notDst_spec (by kernel_rfl))
          | 1, _ => exact hout 1 (notDst_spec (by kernel_rfl))
          | 2, _ => exact hout 2 (notDst_spec (by kernel_rfl))
          | 3, _ => exact hout 3 (notDst_spec (by kernel_rfl))
          | 4, _ => exact hall 16 (by decide)
          | 5, _ => exact hout 5 (notDst_spec (by kernel_rfl))
          | 6, _ => exact hout 6 (notDst_spec (by kernel_rfl))
          | 7, _ => exact hout 7 (notDst_spec (by kernel_rfl))
          | 8, _ => exact hout 8 (notDst_spec (by kernel_rfl))
          | 9, _ => exact hout 9 (notDst_spec (by kernel_rfl))
          | 10, _ => exact hout 10 (notDst_spec (by kernel_rfl))
          | 11, _ => exact hout 11 (notDst_spec (by kernel_rfl))
          | 12, _ => exact hout 12 (notDst_spec (by kernel_rfl))
          | 13, _ => exact hout 13 (notDst_spec (by kernel_rfl))
          | 14, _ => exact hout 14 (notDst_spec (by kernel_rfl))
          | 15, _ => exact hout 15 (notDst_spec (by kernel_rfl))
          | 16, _ => exact hall 0 (by decide)
          | 17, _ => exact hall 1 (by decide)
          | 18, _ => exact hall 2 (by decide)
          | 19, _ => exact hall 3 (by decide)
          | 20, _ => exact hall 4 (by decide)
          | 21, _ => exact hall 5 (by decide)
          | 22, _ => exact hall 6 (by decide)
          | 23, _ => exact hall 7 (by decide)
          | 24, _ => exact hall 8 (by decide)
          | 25, _ => exact hall 9 (by decide)
          | 26, _ => exact hall 10 (by decide)
          | 27, _ => exact hall 11 (by decide)
          | 28, _ => exact hall 12 (by decide)
          | 29, _ => exact hall 13 (by decide)
          | 30, _ => exact hall 14 (by decide)
          | 31, _ => exact hall 15 (by decide)
          | n + 32, h => exact absurd h (by simp)
        obtain ⟨tt, dd⟩ := aa
        simp only at hat hdf
        subst hat hdf
        clear hsz hout hall
        clear HH HP HE HFB HPB
        go_wp2_with fail
        go_ret
        exact ⟨by rw [HK.out]; simp [H1.out], HBW.out.trans (hW.mono HBW.out.size)⟩
    | false =>
      refine region_skip (fun i9 v9 _ => match i9 with
        | 0 => v9 = Value.int IntKind.i64 (er : Int)
        | 1 => v9 = .bool true
        | 2 => v9 = .bool true
        | 3 => v9 = .agg #[.int .i64 k, .int .u64 (rl : Int), .int .i64 rk, .string rkey, .string rval, .int .u64 (pl : Int), .int .i64 pk, .int .i64 pa, .int .i64 pn, .string pkey, .int .i64 ec, .int .i64 eb, .int .i64 ef, .int .u32 (es : Int)]
        | 4 => v9 = .bool false
        | 5 => v9 = .bool false
        | 6 => v9 = .bool false
        | 7 => v9 = undef
        | 8 => v9 = undef
        | 9 => v9 = undef
        | 10 => v9 = undef
        | 11 => v9 = undef
        | 12 => v9 = undef
        | 13 => v9 = undef
        | 14 => v9 = undef
        | 15 => v9 = .bool false
        | _ => v9 = .bool false) (fun w => Below Wr.heap.size Wr w) hmx (by kernel_rfl) (by kernel_rfl) ((Below.refl _ _).drew) ?_ ?_ ?_
      · intro i9 v9 w8 w9 _ _ hb hG
        match i9, hG with
        | 0, h => exact h
        | 1, h => exact h
        | 2, h => exact h
        | 3, h => exact h
        | 4, h => exact h
        | 5, h => exact h
        | 6, h => exact h
        | 7, h => exact h
        | 8, h => exact h
        | 9, h => exact h
        | 10, h => exact h
        | 11, h => exact h
        | 12, h => exact h
        | 13, h => exact h
        | 14, h => exact h
        | 15, h => exact h
        | n + 16, h => exact h
      · intro i9 o9 ho a9 w9 hW hdf hsz hout haf
        have ee5 := getq (show a9.tmps.getD 5 undef = Value.pointer (some { block := w1.heap.size, off := 0 }) from hout 5 (notDst_spec (by kernel_rfl)))
        have ee7 := getq (show a9.tmps.getD 7 undef = Value.int IntKind.i64 (er : Int) from hout 7 (notDst_spec (by kernel_rfl)))
        have hsz2 : a9.tmps.size = 32 := hsz
        clear hout hsz hdf
        match i9, ho, haf with
        | 0, ho, haf =>
          obtain rfl := Option.some.inj ho
          refine skip_good _ (wanted_none rfl) ?_
          clear haf ho hsz2
          intro K hK
          simp only [List.getElem_toArray, List.getElem_cons_zero] at hK ⊢
          go_simp
          exact hK _ _ ⟨Below.refl _ _, hW, rfl⟩
        | 1, ho, haf =>
          obtain rfl := Option.some.inj ho
          have f0 := getq (show a9.tmps.getD 16 undef = Value.int IntKind.i64 (er : Int) from haf ⟨0, .data⟩ (by simp) rfl)
          refine skip_good _ (wanted_none rfl) ?_
          clear haf ho hsz2
          intro K hK
          simp only [List.getElem_toArray, List.getElem_cons_succ, List.getElem_cons_zero] at hK ⊢
          go_simp
          exact hK _ _ ⟨Below.refl _ _, hW, rfl⟩
        | 2, ho, haf =>
          obtain rfl := Option.some.inj ho
          have f1 := getq (show a9.tmps.getD 17 undef = .bool true from haf ⟨1, .data⟩ (by simp) rfl)
          refine skip_good _ (wanted_none rfl) ?_
          clear haf ho hsz2
          intro K hK
          simp only [List.getElem_toArray, List.getElem_cons_succ, List.getElem_cons_zero] at hK ⊢
          go_simp
          exact hK _ _ ⟨Below.refl _ _, hW, rfl⟩
        | 3, ho, haf =>
          obtain rfl := Option.some.inj ho
          have gg : a9.tmps.getD 18 undef = .bool true := haf ⟨2, .guard⟩ (by simp) rfl
          refine skip_good _ (wanted_some rfl (yielded_of (d := 18) rfl (by omega) gg)) ?_
          clear haf ho hsz2 gg
          intro K hK
          simp only [List.getElem_toArray, List.getElem_cons_succ, List.getElem_cons_zero] at hK ⊢
          have t0 := (HFB.out w9 hW).cell 0 _ rfl
          have t1 := (HFB.out w9 hW).cell 1 _ rfl
          have t2 := (HFB.out w9 hW).cell 2 _ rfl
          have t3 := (HFB.out w9 hW).cell 3 _ rfl
          have t4 := (HFB.out w9 hW).cell 4 _ rfl
          have t5 := (HFB.out w9 hW).cell 5 _ rfl
          have t6 := (HFB.out w9 hW).cell 6 _ rfl
          have t7 := (HFB.out w9 hW).cell 7 _ rfl
          have t8 := (HFB.out w9 hW).cell 8 _ rfl
          have t9 := (HFB.out w9 hW).cell 9 _ rfl
          have t10 := (HFB.out w9 hW).cell 10 _ rfl
          have t11 := (HFB.out w9 hW).cell 11 _ rfl
          have t12 := (HFB.out w9 hW).cell 12 _ rfl
          have t13 := (HFB.out w9 hW).cell 13 _ rfl
          go_simp
          exact hK _ _ ⟨Below.refl _ _, hW, rfl⟩
        | 4, ho, haf =>
          obtain rfl := Option.some.inj ho
          have gg : a9.tmps.getD 18 undef = .bool true := haf ⟨2, .guard⟩ (by simp) rfl
          have f3 := getq (show a9.tmps.getD 19 undef = .agg #[.int .i64 k, .int .u64 (rl : Int), .int .i64 rk, .string rkey, .string rval, .int .u64 (pl : Int), .int .i64 pk, .int .i64 pa, .int .i64 pn, .string pkey, .int .i64 ec, .int .i64 eb, .int .i64 ef, .int .u32 (es : Int)] from haf ⟨3, .data⟩ (by simp) rfl)
          refine skip_good _ (wanted_some rfl (yielded_of (d := 18) rfl (by omega) gg)) ?_
          clear haf ho hsz2 gg
          intro K hK
          simp only [List.getElem_toArray, List.getElem_cons_succ, List.getElem_cons_zero] at hK ⊢
          go_simp
          refine Calls.mono (HH.out _) ?_
          rintro e9 w8 ⟨rfl, hb9⟩
          exact hK _ _ ⟨hb9, hW.trans (hb9.mono hW.size), rfl⟩
        | 5, ho, haf =>
          obtain rfl := Option.some.inj ho
          have f2 := getq (show a9.tmps.getD 18 undef = .bool true from haf ⟨2, .data⟩ (by simp) rfl)
          have f4 := getq (show a9.tmps.getD 20 undef = .bool false from haf ⟨4, .data⟩ (by simp) rfl)
          refine skip_good _ (wanted_none rfl) ?_
          clear haf ho hsz2
          intro K hK
          simp only [List.getElem_toArray, List.getElem_cons_succ, List.getElem_cons_zero] at hK ⊢
          go_simp
          exact hK _ _ ⟨Below.refl _ _, hW, rfl⟩
        | 6, ho, haf =>
          obtain rfl := Option.some.inj ho
          have f5 := getq (show a9.tmps.getD 21 undef = .bool false from haf ⟨5, .data⟩ (by simp) rfl)
          refine skip_good _ (wanted_none rfl) ?_
          clear haf ho hsz2
          intro K hK
          simp only [List.getElem_toArray, List.getElem_cons_succ, List.getElem_cons_zero] at hK ⊢
          go_simp
          exact hK _ _ ⟨Below.refl _ _, hW, rfl⟩
        | 7, ho, haf =>
          obtain rfl := Option.some.inj ho
          have gg : a9.tmps.getD 22 undef = .bool false := haf ⟨6, .guard⟩ (by simp) rfl
          exact skip_no (b := false) rfl (yielded_of (d := 22) rfl (by omega) gg) rfl
        | 8, ho, haf =>
          obtain rfl := Option.some.inj ho
          have gg : a9.tmps.getD 22 undef = .bool false := haf ⟨6, .guard⟩ (by simp) rfl
          exact skip_no (b := false) rfl (yielded_of (d := 22) rfl (by omega) gg) rfl
        | 9, ho, haf =>
          obtain rfl := Option.some.inj ho
          have gg : a9.tmps.getD 22 undef = .bool false := haf ⟨6, .guard⟩ (by simp) rfl
          exact skip_no (b := false) rfl (yielded_of (d := 22) rfl (by omega) gg) rfl
        | 10, ho, haf =>
          obtain rfl := Option.some.inj ho
          have gg : a9.tmps.getD 22 undef = .bool false := haf ⟨6, .guard⟩ (by simp) rfl
          exact skip_no (b := false) rfl (yielded_of (d := 22) rfl (by omega) gg) rfl
        | 11, ho, haf =>
          obtain rfl := Option.some.inj ho
          have gg : a9.tmps.getD 22 undef = .bool false := haf ⟨6, .guard⟩ (by simp) rfl
          exact skip_no (b := false) rfl (yielded_of (d := 22) rfl (by omega) gg) rfl
        | 12, ho, haf =>
          obtain rfl := Option.some.inj ho
          have gg : a9.tmps.getD 22 undef = .bool false := haf ⟨6, .guard⟩ (by simp) rfl
          exact skip_no (b := false) rfl (yielded_of (d := 22) rfl (by omega) gg) rfl
        | 13, ho, haf =>
          obtain rfl := Option.some.inj ho
          have gg : a9.tmps.getD 22 undef = .bool false := haf ⟨6, .guard⟩ (by simp) rfl
          exact skip_no (b := false) rfl (yielded_of (d := 22) rfl (by omega) gg) rfl
        | 14, ho, haf =>
          obtain rfl := Option.some.inj ho
          have gg : a9.tmps.getD 22 undef = .bool false := haf ⟨6, .guard⟩ (by simp) rfl
          exact skip_no (b := false) rfl (yielded_of (d := 22) rfl (by omega) gg) rfl
        | 15, ho, haf =>
          obtain rfl := Option.some.inj ho
          have f6 := getq (show a9.tmps.getD 22 undef = .bool false from haf ⟨6, .data⟩ (by simp) rfl)
          have f14 := getq (show a9.tmps.getD 30 undef = undef from haf ⟨14, .data⟩ (by simp) rfl)
          refine skip_good _ (wanted_none rfl) ?_
          clear haf ho hsz2
          intro K hK
          simp only [List.getElem_toArray, List.getElem_cons_succ, List.getElem_cons_zero] at hK ⊢
          go_simp
          exact hK _ _ ⟨Below.refl _ _, hW, rfl⟩
        | 16, ho, haf =>
          obtain rfl := Option.some.inj ho
          have f15 := getq (show a9.tmps.getD 31 undef = .bool false from haf ⟨15, .data⟩ (by simp) rfl)
          refine skip_good _ (wanted_none rfl) ?_
          clear haf ho hsz2
          intro K hK
          simp only [List.getElem_toArray, List.getElem_cons_succ, List.getElem_cons_zero] at hK ⊢
          go_simp
          exact hK _ _ ⟨Below.refl _ _, hW, rfl⟩
        | n + 17, ho, haf => simp at ho
      · intro aa w9 hW hdf hsz hout hall
        have hat : aa.tmps = #[Value.slice a l.length c, Value.agg #[Value.int IntKind.u64 (p1 : Int), Value.int IntKind.i64 p2, Value.int IntKind.i64 p3, Value.int IntKind.i64 p4, Value.string p5], undef, Value.pointer (some { block := w.heap.size, off := 0 }), .bool false, Value.pointer (some { block := w1.heap.size, off := 0 }), Value.int IntKind.i64 (q : Int), Value.int IntKind.i64 (er : Int), Value.tuple #[Value.agg #[Value.int IntKind.i64 k, Value.int IntKind.u64 (rl : Int), Value.int IntKind.i64 rk, Value.string rkey, Value.string rval, Value.int IntKind.u64 (pl : Int), Value.int IntKind.i64 pk, Value.int IntKind.i64 pa, Value.int IntKind.i64 pn, Value.string pkey, Value.int IntKind.i64 ec, Value.int IntKind.i64 eb, Value.int IntKind.i64 ef, Value.int IntKind.u32 (es : Int)], Value.int IntKind.i64 (q : Int), Value.int IntKind.i64 (er : Int)], Value.slice a l.length c, Value.pointer (some { block := w.heap.size, off := 2 }), Value.int IntKind.i64 p3, Value.tuple #[Value.agg #[Value.int IntKind.i64 k, Value.int IntKind.u64 (rl : Int), Value.int IntKind.i64 rk, Value.string rkey, Value.string rval, Value.int IntKind.u64 (pl : Int), Value.int IntKind.i64 pk, Value.int IntKind.i64 pa, Value.int IntKind.i64 pn, Value.string pkey, Value.int IntKind.i64 ec, Value.int IntKind.i64 eb, Value.int IntKind.i64 ef, Value.int IntKind.u32 (es : Int)], Value.int IntKind.i64 (q : Int), Value.int IntKind.i64 (er : Int)], Value.agg #[Value.int IntKind.i64 k, Value.int IntKind.u64 (rl : Int), Value.int IntKind.i64 rk, Value.string rkey, Value.string rval, Value.int IntKind.u64 (pl : Int), Value.int IntKind.i64 pk, Value.int IntKind.i64 pa, Value.int IntKind.i64 pn, Value.string pkey, Value.int IntKind.i64 ec, Value.int IntKind.i64 eb, Value.int IntKind.i64 ef, Value.int IntKind.u32 (es : Int)], Value.int IntKind.i64 (q : Int), Value.int IntKind.i64 (er : Int), Value.int IntKind.i64 (er : Int), .bool true, .bool true, .agg #[.int .i64 k, .int .u64 (rl : Int), .int .i64 rk, .string rkey, .string rval, .int .u64 (pl : Int), .int .i64 pk, .int .i64 pa, .int .i64 pn, .string pkey, .int .i64 ec, .int .i64 eb, .int .i64 ef, .int .u32 (es : Int)], .bool false, .bool false, .bool false, undef, undef, undef, undef, undef, undef, undef, undef, .bool false] := by
          refine arr_one (hsz.trans rfl) fun kk hkk => ?_
          match kk, hkk with
          | 0, _ => exact hout 0 (notDst_spec (by kernel_rfl))
          | 1, _ => exact hout 1 (notDst_spec (by kernel_rfl))
          | 2, _ => exact hout 2 (notDst_spec (by kernel_rfl))
          | 3, _ => exact hout 3 (notDst_spec (by kernel_rfl))
          | 4, _ => exact hall 16 (by decide)
          | 5, _ => exact hout 5 (notDst_spec (by kernel_rfl))
          | 6, _ => exact hout 6 (notDst_spec (by kernel_rfl))
          | 7, _ => exact hout 7 (notDst_spec (by kernel_rfl))
          | 8, _ => exact hout 8 (notDst_spec (by kernel_rfl))
          | 9, _ => exact hout 9 (notDst_spec (by kernel_rfl))
          | 10, _ => exact hout 10 (notDst_spec (by kernel_rfl))
          | 11, _ => exact hout 11 (notDst_spec (by kernel_rfl))
          | 12, _ => exact hout 12 (notDst_spec (by kernel_rfl))
          | 13, _ => exact hout 13 (notDst_spec (by kernel_rfl))
          | 14, _ => exact hout 14 (notDst_spec (by kernel_rfl))
          | 15, _ => exact hout 15 (notDst_spec (by kernel_rfl))
          | 16, _ => exact hall 0 (by decide)
          | 17, _ => exact hall 1 (by decide)
          | 18, _ => exact hall 2 (by decide)
          | 19, _ => exact hall 3 (by decide)
          | 20, _ => exact hall 4 (by decide)
          | 21, _ => exact hall 5 (by decide)
          | 22, _ => exact hall 6 (by decide)
          | 23, _ => exact hall 7 (by decide)
          | 24, _ => exact hall 8 (by decide)
          | 25, _ => exact hall 9 (by decide)
          | 26, _ => exact hall 10 (by decide)
          | 27, _ => exact hall 11 (by decide)
          | 28, _ => exact hall 12 (by decide)
          | 29, _ => exact hall 13 (by decide)
          | 30, _ => exact hall 14 (by decide)
          | 31, _ => exact hall 15 (by decide)
          | n + 32, h => exact absurd h (by simp)
        obtain ⟨tt, dd⟩ := aa
        simp only at hat hdf
        subst hat hdf
        clear hsz hout hall
        clear HH HP HE HFB HPB
        go_wp2_with fail
        go_ret
        exact ⟨by rw [HK.out]; simp [H1.out], HBW.out.trans (hW.mono HBW.out.size)⟩
  · have e1 : ((er : Int) == 0) = false := by simp; omega
    have H1 := hd h1
    clear h1
    · skip
      refine region_skip (fun i9 v9 _ => match i9 with
        | 0 => v9 = Value.int IntKind.i64 (er : Int)
        | 1 => v9 = .bool false
        | 2 => v9 = .bool false
        | 3 => v9 = undef
        | 4 => v9 = undef
        | 5 => v9 = .bool false
        | 6 => v9 = .bool false
        | 7 => v9 = undef
        | 8 => v9 = undef
        | 9 => v9 = undef
        | 10 => v9 = undef
        | 11 => v9 = undef
        | 12 => v9 = undef
        | 13 => v9 = undef
        | 14 => v9 = undef
        | 15 => v9 = .bool false
        | _ => v9 = .bool false) (fun w => Below Wr.heap.size Wr w) hmx (by kernel_rfl) (by kernel_rfl) ((Below.refl _ _).drew) ?_ ?_ ?_
      · intro i9 v9 w8 w9 _ _ hb hG
        match i9, hG with
        | 0, h => exact h
        | 1, h => exact h
        | 2, h => exact h
        | 3, h => exact h
        | 4, h => exact h
        | 5, h => exact h
        | 6, h => exact h
        | 7, h => exact h
        | 8, h => exact h
        | 9, h => exact h
        | 10, h => exact h
        | 11, h => exact h
        | 12, h => exact h
        | 13, h => exact h
        | 14, h => exact h
        | 15, h => exact h
        | n + 16, h => exact h
      · intro i9 o9 ho a9 w9 hW hdf hsz hout haf
        have ee7 := getq (show a9.tmps.getD 7 undef = Value.int IntKind.i64 (er : Int) from hout 7 (notDst_spec (by kernel_rfl)))
        have hsz2 : a9.tmps.size = 32 := hsz
        clear hout hsz hdf
        match i9, ho, haf with
        | 0, ho, haf =>
          obtain rfl := Option.some.inj ho
          refine skip_good _ (wanted_none rfl) ?_
          clear haf ho hsz2
          intro K hK
          simp only [List.getElem_toArray, List.getElem_cons_zero] at hK ⊢
          go_simp
          exact hK _ _ ⟨Below.refl _ _, hW, rfl⟩
        | 1, ho, haf =>
          obtain rfl := Option.some.inj ho
          have f0 := getq (show a9.tmps.getD 16 undef = Value.int IntKind.i64 (er : Int) from haf ⟨0, .data⟩ (by simp) rfl)
          refine skip_good _ (wanted_none rfl) ?_
          clear haf ho hsz2
          intro K hK
          simp only [List.getElem_toArray, List.getElem_cons_succ, List.getElem_cons_zero] at hK ⊢
          go_simp
          exact hK _ _ ⟨Below.refl _ _, hW, rfl⟩
        | 2, ho, haf =>
          obtain rfl := Option.some.inj ho
          have f1 := getq (show a9.tmps.getD 17 undef = .bool false from haf ⟨1, .data⟩ (by simp) rfl)
          refine skip_good _ (wanted_none rfl) ?_
          clear haf ho hsz2
          intro K hK
          simp only [List.getElem_toArray, List.getElem_cons_succ, List.getElem_cons_zero] at hK ⊢
          go_simp
          exact hK _ _ ⟨Below.refl _ _, hW, rfl⟩
        | 3, ho, haf =>
          obtain rfl := Option.some.inj ho
          have gg : a9.tmps.getD 18 undef = .bool false := haf ⟨2, .guard⟩ (by simp) rfl
          exact skip_no (b := false) rfl (yielded_of (d := 18) rfl (by omega) gg) rfl
        | 4, ho, haf =>
          obtain rfl := Option.some.inj ho
          have gg : a9.tmps.getD 18 undef = .bool false := haf ⟨2, .guard⟩ (by simp) rfl
          exact skip_no (b := false) rfl (yielded_of (d := 18) rfl (by omega) gg) rfl
        | 5, ho, haf =>
          obtain rfl := Option.some.inj ho
          have f2 := getq (show a9.tmps.getD 18 undef = .bool false from haf ⟨2, .data⟩ (by simp) rfl)
          have f4 := getq (show a9.tmps.getD 20 undef = undef from haf ⟨4, .data⟩ (by simp) rfl)
          refine skip_good _ (wanted_none rfl) ?_
          clear haf ho hsz2
          intro K hK
          simp only [List.getElem_toArray, List.getElem_cons_succ, List.getElem_cons_zero] at hK ⊢
          go_simp
          exact hK _ _ ⟨Below.refl _ _, hW, rfl⟩
        | 6, ho, haf =>
          obtain rfl := Option.some.inj ho
          have f5 := getq (show a9.tmps.getD 21 undef = .bool false from haf ⟨5, .data⟩ (by simp) rfl)
          refine skip_good _ (wanted_none rfl) ?_
          clear haf ho hsz2
          intro K hK
          simp only [List.getElem_toArray, List.getElem_cons_succ, List.getElem_cons_zero] at hK ⊢
          go_simp
          exact hK _ _ ⟨Below.refl _ _, hW, rfl⟩
        | 7, ho, haf =>
          obtain rfl := Option.some.inj ho
          have gg : a9.tmps.getD 22 undef = .bool false := haf ⟨6, .guard⟩ (by simp) rfl
          exact skip_no (b := false) rfl (yielded_of (d := 22) rfl (by omega) gg) rfl
        | 8, ho, haf =>
          obtain rfl := Option.some.inj ho
          have gg : a9.tmps.getD 22 undef = .bool false := haf ⟨6, .guard⟩ (by simp) rfl
          exact skip_no (b := false) rfl (yielded_of (d := 22) rfl (by omega) gg) rfl
        | 9, ho, haf =>
          obtain rfl := Option.some.inj ho
          have gg : a9.tmps.getD 22 undef = .bool false := haf ⟨6, .guard⟩ (by simp) rfl
          exact skip_no (b := false) rfl (yielded_of (d := 22) rfl (by omega) gg) rfl
        | 10, ho, haf =>
          obtain rfl := Option.some.inj ho
          have gg : a9.tmps.getD 22 undef = .bool false := haf ⟨6, .guard⟩ (by simp) rfl
          exact skip_no (b := false) rfl (yielded_of (d := 22) rfl (by omega) gg) rfl
        | 11, ho, haf =>
          obtain rfl := Option.some.inj ho
          have gg : a9.tmps.getD 22 undef = .bool false := haf ⟨6, .guard⟩ (by simp) rfl
          exact skip_no (b := false) rfl (yielded_of (d := 22) rfl (by omega) gg) rfl
        | 12, ho, haf =>
          obtain rfl := Option.some.inj ho
          have gg : a9.tmps.getD 22 undef = .bool false := haf ⟨6, .guard⟩ (by simp) rfl
          exact skip_no (b := false) rfl (yielded_of (d := 22) rfl (by omega) gg) rfl
        | 13, ho, haf =>
          obtain rfl := Option.some.inj ho
          have gg : a9.tmps.getD 22 undef = .bool false := haf ⟨6, .guard⟩ (by simp) rfl
          exact skip_no (b := false) rfl (yielded_of (d := 22) rfl (by omega) gg) rfl
        | 14, ho, haf =>
          obtain rfl := Option.some.inj ho
          have gg : a9.tmps.getD 22 undef = .bool false := haf ⟨6, .guard⟩ (by simp) rfl
          exact skip_no (b := false) rfl (yielded_of (d := 22) rfl (by omega) gg) rfl
        | 15, ho, haf =>
          obtain rfl := Option.some.inj ho
          have f6 := getq (show a9.tmps.getD 22 undef = .bool false from haf ⟨6, .data⟩ (by simp) rfl)
          have f14 := getq (show a9.tmps.getD 30 undef = undef from haf ⟨14, .data⟩ (by simp) rfl)
          refine skip_good _ (wanted_none rfl) ?_
          clear haf ho hsz2
          intro K hK
          simp only [List.getElem_toArray, List.getElem_cons_succ, List.getElem_cons_zero] at hK ⊢
          go_simp
          exact hK _ _ ⟨Below.refl _ _, hW, rfl⟩
        | 16, ho, haf =>
          obtain rfl := Option.some.inj ho
          have f15 := getq (show a9.tmps.getD 31 undef = .bool false from haf ⟨15, .data⟩ (by simp) rfl)
          refine skip_good _ (wanted_none rfl) ?_
          clear haf ho hsz2
          intro K hK
          simp only [List.getElem_toArray, List.getElem_cons_succ, List.getElem_cons_zero] at hK ⊢
          go_simp
          exact hK _ _ ⟨Below.refl _ _, hW, rfl⟩
        | n + 17, ho, haf => simp at ho
      · intro aa w9 hW hdf hsz hout hall
        have hat : aa.tmps = #[Value.slice a l.length c, Value.agg #[Value.int IntKind.u64 (p1 : Int), Value.int IntKind.i64 p2, Value.int IntKind.i64 p3, Value.int IntKind.i64 p4, Value.string p5], undef, Value.pointer (some { block := w.heap.size, off := 0 }), .bool false, Value.pointer (some { block := w1.heap.size, off := 0 }), Value.int IntKind.i64 (q : Int), Value.int IntKind.i64 (er : Int), Value.tuple #[Value.agg #[Value.int IntKind.i64 k, Value.int IntKind.u64 (rl : Int), Value.int IntKind.i64 rk, Value.string rkey, Value.string rval, Value.int IntKind.u64 (pl : Int), Value.int IntKind.i64 pk, Value.int IntKind.i64 pa, Value.int IntKind.i64 pn, Value.string pkey, Value.int IntKind.i64 ec, Value.int IntKind.i64 eb, Value.int IntKind.i64 ef, Value.int IntKind.u32 (es : Int)], Value.int IntKind.i64 (q : Int), Value.int IntKind.i64 (er : Int)], Value.slice a l.length c, Value.pointer (some { block := w.heap.size, off := 2 }), Value.int IntKind.i64 p3, Value.tuple #[Value.agg #[Value.int IntKind.i64 k, Value.int IntKind.u64 (rl : Int), Value.int IntKind.i64 rk, Value.string rkey, Value.string rval, Value.int IntKind.u64 (pl : Int), Value.int IntKind.i64 pk, Value.int IntKind.i64 pa, Value.int IntKind.i64 pn, Value.string pkey, Value.int IntKind.i64 ec, Value.int IntKind.i64 eb, Value.int IntKind.i64 ef, Value.int IntKind.u32 (es : Int)], Value.int IntKind.i64 (q : Int), Value.int IntKind.i64 (er : Int)], Value.agg #[Value.int IntKind.i64 k, Value.int IntKind.u64 (rl : Int), Value.int IntKind.i64 rk, Value.string rkey, Value.string rval, Value.int IntKind.u64 (pl : Int), Value.int IntKind.i64 pk, Value.int IntKind.i64 pa, Value.int IntKind.i64 pn, Value.string pkey, Value.int IntKind.i64 ec, Value.int IntKind.i64 eb, Value.int IntKind.i64 ef, Value.int IntKind.u32 (es : Int)], Value.int IntKind.i64 (q : Int), Value.int IntKind.i64 (er : Int), Value.int IntKind.i64 (er : Int), .bool false, .bool false, undef, undef, .bool false, .bool false, undef, undef, undef, undef, undef, undef, undef, undef, .bool false] := by
          refine arr_one (hsz.trans rfl) fun kk hkk => ?_
          match kk, hkk with
          | 0, _ => exact hout 0 (notDst_spec (by kernel_rfl))
          | 1, _ => exact hout 1 (notDst_spec (by kernel_rfl))
          | 2, _ => exact hout 2 (notDst_spec (by kernel_rfl))
          | 3, _ => exact hout 3 (notDst_spec (by kernel_rfl))
          | 4, _ => exact hall 16 (by decide)
          | 5, _ => exact hout 5 (notDst_spec (by kernel_rfl))
          | 6, _ => exact hout 6 (notDst_spec (by kernel_rfl))
          | 7, _ => exact hout 7 (notDst_spec (by kernel_rfl))
          | 8, _ => exact hout 8 (notDst_spec (by kernel_rfl))
          | 9, _ => exact hout 9 (notDst_spec (by kernel_rfl))
          | 10, _ => exact hout 10 (notDst_spec (by kernel_rfl))
          | 11, _ => exact hout 11 (notDst_spec (by kernel_rfl))
          | 12, _ => exact hout 12 (notDst_spec (by kernel_rfl))
          | 13, _ => exact hout 13 (notDst_spec (by kernel_rfl))
          | 14, _ => exact hout 14 (notDst_spec (by kernel_rfl))
          | 15, _ => exact hout 15 (notDst_spec (by kernel_rfl))
          | 16, _ => exact hall 0 (by decide)
          | 17, _ => exact hall 1 (by decide)
          | 18, _ => exact hall 2 (by decide)
          | 19, _ => exact hall 3 (by decide)
          | 20, _ => exact hall 4 (by decide)
          | 21, _ => exact hall 5 (by decide)
          | 22, _ => exact hall 6 (by decide)
          | 23, _ => exact hall 7 (by decide)
          | 24, _ => exact hall 8 (by decide)
          | 25, _ => exact hall 9 (by decide)
          | 26, _ => exact hall 10 (by decide)
          | 27, _ => exact hall 11 (by decide)
          | 28, _ => exact hall 12 (by decide)
          | 29, _ => exact hall 13 (by decide)
          | 30, _ => exact hall 14 (by decide)
          | 31, _ => exact hall 15 (by decide)
          | n + 32, h => exact absurd h (by simp)
        obtain ⟨tt, dd⟩ := aa
        simp only at hat hdf
        subst hat hdf
        clear hsz hout hall
        clear HH HP HE HFB HPB
        go_wp2_with fail
        go_ret
        exact ⟨by rw [HK.out]; simp [H1.out], HBW.out.trans (hW.mono HBW.out.size)⟩
end Vt
end Go.Proofs.Ytlddogigbodilaa
namespace Go.Proofs.Ytlddogigbodilaa
open Go.RowKit Go.Shelf
namespace Vt
/-- what an iterator may do between two rounds: its own blocks X, and what is no cells and lies at B or beyond -/
structure Turned (X : Nat → Prop) (B : Nat) (W W' : World) : Prop where
  os : W'.os = W.os
  tape : W'.tape = W.tape
  output : W'.output = W.output
  size : W.heap.size ≤ W'.heap.size
  block : ∀ (k : Nat) (o : Obj), W.heap[k]? = some o → ¬ X k → (o.isCells = true ∨ k < B) → W'.heap[k]? = some o
theorem Turned.refl (X : Nat → Prop) (B : Nat) (W : World) : Turned X B W W := ⟨rfl, rfl, rfl, Nat.le_refl _, fun _ _ h _ _ => h⟩
theorem Turned.trans {X : Nat → Prop} {B : Nat} {a b c : World} (h : Turned X B a b) (k : Turned X B b c) : Turned X B a c :=
  ⟨k.os.trans h.os, k.tape.trans h.tape, k.output.trans h.output, Nat.le_trans h.size k.size, fun i o hi hx ho => k.block i o (h.block i o hi hx ho) hx ho⟩
theorem Turned.mono {X Y : Nat → Prop} {B C : Nat} {a b : World} (h : Turned X B a b) (hX : ∀ k, X k → Y k) (hB : C ≤ B) : Turned Y C a b :=
  ⟨h.os, h.tape, h.output, h.size, fun i o hi hx ho => h.block i o hi (fun x => hx (hX i x)) (by rcases ho with ho | ho; exact .inl ho; exact .inr (by omega))⟩
theorem Turned.of_below {X : Nat → Prop} {B : Nat} {a b : World} (h : Below a.heap.size a b) : Turned X B a b :=
  ⟨h.os, h.tape, h.output, h.size, fun i _ hi _ _ => (h.block i (Array.getElem?_eq_some_iff.1 hi).1).trans hi⟩
theorem Turned.alloc {X : Nat → Prop} {B : Nat} (W : World) (o : Obj) : Turned X B W (W.alloc o) := Turned.of_below ((Below.refl _ _).alloc (Nat.le_refl _) _)
theorem Turned.putObj {X : Nat → Prop} {B : Nat} {W : World} {l : Nat} {o : Obj} (o' : Obj) (hl : W.heap[l]? = some o) (ho : o.isCells = false) (hB : B ≤ l) : Turned X B W (W.putObj l o') :=
  ⟨rfl, rfl, rfl, by simp, fun k q hk _ hq => by
    by_cases e : k = l
    · subst e; rw [hl] at hk; cases hk
      rcases hq with hq | hq
      · rw [ho] at hq; cases hq
      · omega
    · exact (World.putObj_heap_other e).trans hk⟩
theorem Turned.of_grown {X : Nat → Prop} {B : Nat} {W W' : World} {row : Option Nat} (hg : W.grownBy W' row) (hr : ∀ r, row = some r → B ≤ r ∧ ∃ o : Obj, W.heap[r]? = some o ∧ o.isCells = false) : Turned X B W W' :=
  ⟨hg.os, hg.tape, hg.output, hg.size, fun k q hk _ hq => by
    refine (hg.block k (Array.getElem?_eq_some_iff.1 hk).1 (fun e => ?_)).trans hk
    obtain ⟨h1, o, ho, hc⟩ := hr k e.symm
    rw [hk] at ho; cases ho
    rcases hq with hq | hq
    · rw [hc] at hq; cases hq
    · omega⟩
/-- the caller's invariant abides what the iterator does -/
def AbidesX {β : Type} (B : Nat) (J : β → (Nat → Prop) → World → Prop) : Prop :=
  ∀ s X X' W W', J s X W → Turned X B W W' → (∀ k, X' k → X k ∨ W.heap.size ≤ k) → J s X' W'
theorem AbidesX.turn {β : Type} {B : Nat} {J : β → (Nat → Prop) → World → Prop} (h : AbidesX B J) {s : β} {X : Nat → Prop} {W W' : World} (hs : J s X W) (ht : Turned X B W W') : J s X W' := h s X X W W' hs ht (fun _ x => .inl x)
theorem AbidesX.mono {β : Type} {B C : Nat} {J : β → (Nat → Prop) → World → Prop} (h : AbidesX B J) (hB : B ≤ C) : AbidesX C J :=
  fun s X X' W W' hs ht hX => h s X X' W W' hs (ht.mono (fun _ x => x) hB) hX
/-- THE CONTRACT: K0: what the rounds must keep of what lay ahead. -/
def SeqX {α : Type} (P : Program) (g : Nat) (lb : Array Value) (encs : α → Array Value) (K0 : Nat → Prop) (S Sp : List α → Prop) (N : Nat) (w : World) : Prop :=
  ∀ (l : Nat) (J Jx : List α → (Nat → Prop) → World → Prop) (W : World), Below w.heap.size w W → AbidesX W.heap.size J → AbidesX W.heap.size Jx →
    (∀ pre x X W1, J pre X W1 → (∀ k, X k → W.heap.size ≤ k ∧ k < W1.heap.size) → pre.length < N → YieldAt Fence.wide 0 P l (encs x) W1 fun e W' =>
      KeepsFrom W.heap.size W1 W' ∧ ((e = .returned (.bool true) ∧ J (pre ++ [x]) X W' ∧ KeepS (fun k => K0 k ∨ X k) W1 W') ∨ (e = .returned (.bool false) ∧ Jx (pre ++ [x]) X W'))) →
    J [] (fun _ => False) W →
    Calls P g (#[.func (.yield l) #[] #[]] ++ lb) W fun e W' => (∃ v, e = .returned v) ∧ ((∃ xs X, S xs ∧ J xs X W') ∨ (∃ pre X, Sp pre ∧ Jx pre X W'))
theorem RoundIn.any {n m : Nat} {P : Program} {l : Nat} {f : FuncId} {tmps : Array Value} {assign body : Code} {w : World} {R : Ending → World → Prop} (h : RoundIn Fence.wide n P l f tmps assign body w R) : RoundIn Fence.wide m P l f tmps assign body w R :=
  ⟨h.1, fun c cs _ => h.2 c cs (room_wide _)⟩
theorem YieldAt.any {n m : Nat} {P : Program} {l : Nat} {args : Array Value} {W : World} {R : Ending → World → Prop} (h : YieldAt Fence.wide n P l args W R) : YieldAt Fence.wide m P l args W R := by
  obtain ⟨fn, tmps, assign, body, hy, hR⟩ := h
  exact ⟨fn, tmps, assign, body, hy, RoundIn.any hR⟩
/-- how the body of a round may be left -/
def postX {α : Type} (B : Nat) (K0 X : Nat → Prop) (I : List α → (Nat → Prop) → World → Prop) (Ix : Code → List α → (Nat → Prop) → World → Prop) (xs : List α) (W : World) : Exit → Act → World → Prop
  | .normal, _, W' => KeepsFrom B W W' ∧ KeepS (fun k => K0 k ∨ X k) W W' ∧ I xs X W'
  | .ret, _, W' => KeepsFrom B W W' ∧ Ix .ret xs X W'
  | .exit id, _, W' => KeepsFrom B W W' ∧ Ix (.exit id) xs X W'
  | .goto t, _, W' => KeepsFrom B W W' ∧ Ix (.goto t) xs X W'
  | .panic _, _, _ => False
  | .outgrown, _, _ => False
theorem keepS_put {S : Nat → Prop} {W : World} {l : Nat} (o' : Obj) (hS : ¬ S l) : KeepS S W (W.putObj l o') :=
  ⟨rfl, rfl, rfl, by simp, fun k hk => World.putObj_heap_other (fun e => hS (e ▸ hk))⟩
/-- THE CALLER's LAW. -/
theorem wpIn_rangeFunc_X {α : Type} {n : Nat} {P : Program} {g : Operand} {ps : Array Tmp} {assign body : Code} {Q : Exit → Act → World → Prop} {a : Act} {w : World}
    {gf : Nat} {lb : Array Value} (hg : a.eval g = .func (.func gf) #[] lb) (eg : ∀ args w, (callFunc gf args).run P w = .ok (.enter gf args) w)
    {encs : α → Array Value} {K0 : Nat → Prop} {S Sp : List α → Prop} {N : Nat} {w0 : World} (hseq : SeqX P gf lb encs K0 S Sp N w0)
    (hK0 : ∀ k, K0 k → k < w.heap.size) (hb0 : Below w0.heap.size w0 w) (hps : ∀ x, (encs x).size = ps.size)
    (I : List α → (Nat → Prop) → World → Prop) (Ix : Code → List α → (Nat → Prop) → World → Prop) (hI : AbidesX w.heap.size I) (hIx : ∀ c, AbidesX w.heap.size (Ix c)) (h0 : I [] (fun _ => False) w) (Ax : α → Act → World → Prop) (hAx : ∀ x a', OwnFrom w.heap.size (fun (_ : Unit) W => Ax x a' W))
    (hassign : ∀ (l : Nat) (pre : List α) (x : α) (X : Nat → Prop) (W : World) (K : Act → World → Prop), I pre X W → (∀ k, X k → w.heap.size ≤ k ∧ k < W.heap.size) → (∀ a' W', KeepsFrom w.heap.size W W' → KeepS (fun k => K0 k ∨ X k) W W' → I pre X W' → Ax x a' W' → K a' W') →
      assign.wpIn (Fence.wide.inRound l) (n - 1 - 1) P (Exit.then K (fun _ _ _ => False)) { tmps := (ps.zip (encs x)).foldl (fun t (p, v) => t.setIfInBounds p v) a.tmps, defers := [] } W)
    (hbody : ∀ (l : Nat) (pre : List α) (x : α) (X : Nat → Prop) (a' : Act) (W : World), w.heap.size ≤ l → (∃ r, W.heap[l]? = some (.loop r)) → (∀ k, X k → w.heap.size + 2 ≤ k ∧ k < W.heap.size) → I pre X W → Ax x a' W → pre.length < N → body.wpIn (Fence.wide.inRound l) (n - 1 - 1) P (postX w.heap.size K0 X I Ix (pre ++ [x]) W) a' W)
    (hdone : ∀ (D : Nat) (xs : List α) (X : Nat → Prop) (W : World), w.heap.size ≤ D → S xs → I xs X W → W.heap[D]? = some (.deferred (some [])) → Q .normal { a with defers := { target := .collected D, args := #[] } :: a.defers } W)
    (hstop : ∀ (D : Nat) (c : Code) (pre : List α) (X : Nat → Prop) (W : World), w.heap.size ≤ D → Sp pre → Ix c pre X W → W.heap[D]? = some (.deferred (some [])) → c.wpIn Fence.wide n P Q { a with defers := { target := .collected D, args := #[] } :: a.defers } W) :
    (Code.rangeFunc g ps assign body).wpIn Fence.wide n P Q a w := by
  refine wpIn_rangeFunc ?_
  intro fn hfn
  show ∃ _, _
  obtain ⟨rec, hrec⟩ : ∃ rec : LoopState → Option Code → Loop, rec = fun st pe => { state := st, pending := pe, fn, tmps := a.tmps, params := ps, assign, body, defers := w.heap.size } := ⟨_, rfl⟩
  obtain ⟨W1, hW1⟩ : ∃ W1, (w.alloc (.deferred (some []))).alloc (.loop (rec .ready none)) = W1 := ⟨_, rfl⟩
  have hs1 : W1.heap.size = w.heap.size + 2 := by rw [← hW1]; simp
  have hL1 : W1.heap[w.heap.size + 1]? = some (.loop (rec .ready none)) := by
    rw [← hW1]; have := World.alloc_heap_new (w.alloc (.deferred (some []))) (.loop (rec .ready none)); rwa [World.size_alloc] at this
  have hK1 : W1.heap[w.heap.size]? = some (.deferred (some [])) := by
    rw [← hW1]; exact (Below.heap_alloc _ _ _ (by simp)).trans (World.alloc_heap_new w _)
  have hI1 : I [] (fun _ => False) W1 := by rw [← hW1]; exact hI.turn (hI.turn h0 (Turned.alloc _ _)) (Turned.alloc _ _)
  have hb1 : Below w0.heap.size w0 W1 := by
    rw [← hW1]; exact hb0.trans ((((Below.refl _ w).alloc (Nat.le_refl _) _).alloc (by simp) _).mono hb0.size)
  refine ⟨w.heap.size + 1, [{ target := .collected w.heap.size, args := #[] }], W1, { target := .fn (.func gf) lb, args := #[.func (.yield (w.heap.size + 1)) #[] #[]] }, W1, gf,
    #[.func (.yield (w.heap.size + 1)) #[] #[]] ++ lb, W1, ?_, ?_, ?_, ?_, ?_, ?_⟩
  · rw [← hW1, hrec]; exact run_enterLoop_outer _ _ _ _ _
  · simp only [resolve, hg]
    simp [go_sem]
  · intro f' hf'; exact trivial
  · simp [invoke, go_sem, eg]
  · intro h; cases h
  · refine callsIn_wide.2 (Calls.mono (hseq (w.heap.size + 1)
      (fun pre X W => I pre X W ∧ W.heap[w.heap.size + 1]? = some (.loop (rec .ready none)) ∧ W.heap[w.heap.size]? = some (.deferred (some [])) ∧ (∀ k, X k → w.heap.size + 2 ≤ k))
      (fun pre X W => ∃ c, Ix c pre X W ∧ W.heap[w.heap.size + 1]? = some (.loop (rec .done (some c))) ∧ W.heap[w.heap.size]? = some (.deferred (some [])) ∧ (∀ k, X k → w.heap.size + 2 ≤ k))
      W1 hb1
      (fun s X X' A B hs ht hX => ⟨hI s X X' A B hs.1 (ht.mono (fun _ x => x) (by omega)) hX, ht.block _ _ hs.2.1 (fun x => by have := hs.2.2.2 _ x; omega) (.inr (by omega)), ht.block _ _ hs.2.2.1 (fun x => by have := hs.2.2.2 _ x; omega) (.inr (by omega)), fun k hk => by
        rcases hX k hk with h | h
        · exact hs.2.2.2 k h
        · have := (Array.getElem?_eq_some_iff.1 hs.2.1).1; omega⟩)
      (fun s X X' A B hs ht hX => by
        obtain ⟨c, hc, hl, hk, hx⟩ := hs
        exact ⟨c, hIx c s X X' A B hc (ht.mono (fun _ x => x) (by omega)) hX, ht.block _ _ hl (fun x => by have := hx _ x; omega) (.inr (by omega)), ht.block _ _ hk (fun x => by have := hx _ x; omega) (.inr (by omega)), fun k hk' => by
          rcases hX k hk' with h | h
          · exact hx k h
          · have := (Array.getElem?_eq_some_iff.1 hl).1; omega⟩)
      ?_ ⟨hI1, hL1, hK1, fun _ h => h.elim⟩) ?_)
    · rintro pre x X W ⟨hi, hl, hk, hx⟩ hxB hlen
      have hlt : w.heap.size + 1 < W.heap.size := (Array.getElem?_eq_some_iff.1 hl).1
      have hy := run_yield (P := P) (args := encs x) hl (by rw [hrec]; exact hps x)
      rw [hrec] at hy
      refine ⟨fn, _, assign, body, hy, RoundIn.any (n := n - 1 - 1) (roundIn_of_wpIn hfn (hassign _ pre x X W _ hi (fun k h => ⟨by have := hx k h; omega, (hxB k h).2⟩) ?_))⟩
      clear hy
      intro a' Wa hkfa hkpa hia hax
      replace hl := hkfa.same _ _ (by omega) hl rfl
      replace hk := hkfa.same _ _ (Nat.le_refl _) hk rfl
      replace hlt : w.heap.size + 1 < Wa.heap.size := (Array.getElem?_eq_some_iff.1 hl).1
      replace hi := hia
      clear hia
      have hxA : ∀ k, X k → k < Wa.heap.size := fun k h => Nat.lt_of_lt_of_le (hxB k h).2 hkfa.size
      clear hxB
      revert hkpa hkfa
      generalize W = Wb
      intro hkfa hkpa
      obtain ⟨W, rfl⟩ : ∃ W, W = Wa := ⟨_, rfl⟩
      refine ⟨_, run_beginRound hl (by rw [hrec]), ?_⟩
      have hl2 : (W.putObj (w.heap.size + 1) (.loop { rec .ready none with state := .busy })).heap[w.heap.size + 1]? = some (.loop { rec .ready none with state := .busy }) := World.putObj_heap_same hlt
      have hk2 : (W.putObj (w.heap.size + 1) (.loop { rec .ready none with state := .busy })).heap[w.heap.size]? = some (.deferred (some [])) := (World.putObj_heap_other (by omega)).trans hk
      have hnS : ¬ (K0 (w.heap.size + 1) ∨ X (w.heap.size + 1)) := by
        rintro (h | h)
        · have := hK0 _ h; omega
        · have := hx _ h; omega
      have hkB : ∀ {A B : World}, KeepsFrom w.heap.size A B → KeepsFrom W1.heap.size A B := fun h => ⟨h.size, fun k o hk ho hc => h.same k o (by omega) ho hc⟩
      have hput : ∀ (A : World) (o' : Obj), KeepsFrom W1.heap.size A (A.putObj (w.heap.size + 1) o') := fun A o' => ⟨by simp, fun k o hk ho _ => (World.putObj_heap_other (by omega)).trans ho⟩
      refine wpIn_mono (hbody _ pre x X a' _ (by omega) ⟨_, hl2⟩ (fun k h => ⟨hx k h, by simpa using hxA k h⟩) (hI.turn hi (Turned.putObj _ hl rfl (by omega))) ((hAx x a').putObj (s := ()) _ hax (by omega) hl rfl) hlen) ?_
      have fin : ∀ (jump : Option Code) (W3 : World), KeepsFrom w.heap.size (W.putObj (w.heap.size + 1) (.loop { rec .ready none with state := .busy })) W3 →
          (Instr.endRound (w.heap.size + 1) jump).run P W3 = .ok (.bool jump.isNone) (W3.putObj (w.heap.size + 1) (.loop (rec (if jump.isNone then .ready else .done) jump))) ∧
          W3.heap[w.heap.size + 1]? = some (.loop { rec .ready none with state := .busy }) ∧
          (W3.putObj (w.heap.size + 1) (.loop (rec (if jump.isNone then .ready else .done) jump))).heap[w.heap.size + 1]? = some (.loop (rec (if jump.isNone then .ready else .done) jump)) ∧
          (W3.putObj (w.heap.size + 1) (.loop (rec (if jump.isNone then .ready else .done) jump))).heap[w.heap.size]? = some (.deferred (some [])) ∧
          KeepsFrom W1.heap.size Wb (W3.putObj (w.heap.size + 1) (.loop (rec (if jump.isNone then .ready else .done) jump))) := fun jump W3 hk3 => by
        have hl3 := hk3.same _ _ (by omega) hl2 rfl
        have := run_endRound (P := P) jump hl3
        rw [hrec] at this ⊢
        exact ⟨this, by rw [hrec] at hl3; exact hl3, World.putObj_heap_same (Array.getElem?_eq_some_iff.1 hl3).1, (World.putObj_heap_other (by omega)).trans (hk3.same _ _ (Nat.le_refl _) hk2 rfl),
          (((hkB hkfa).trans (hput _ _)).trans (hkB hk3)).trans (hput _ _)⟩
      rintro e a3 W3 hp
      cases e with
      | normal =>
        obtain ⟨hk3, hkp3, hi3⟩ := hp
        obtain ⟨hr, hl3, hl4, hk4, hkf⟩ := fin none W3 hk3
        exact ⟨_, _, hr, hkf, .inl ⟨rfl, ⟨hI.turn hi3 (Turned.putObj _ hl3 rfl (by omega)), hl4, hk4, hx⟩, ((hkpa.trans (keepS_put _ hnS)).trans hkp3).trans (keepS_put _ hnS)⟩⟩
      | ret =>
        obtain ⟨hk3, hi3⟩ := hp
        obtain ⟨hr, hl3, hl4, hk4, hkf⟩ := fin (some .ret) W3 hk3
        exact ⟨_, _, hr, hkf, .inr ⟨rfl, .ret, (hIx _).turn hi3 (Turned.putObj _ hl3 rfl (by omega)), hl4, hk4, hx⟩⟩
      | exit id =>
        obtain ⟨hk3, hi3⟩ := hp
        obtain ⟨hr, hl3, hl4, hk4, hkf⟩ := fin (some (.exit id)) W3 hk3
        exact ⟨_, _, hr, hkf, .inr ⟨rfl, .exit id, (hIx _).turn hi3 (Turned.putObj _ hl3 rfl (by omega)), hl4, hk4, hx⟩⟩
      | goto t =>
        obtain ⟨hk3, hi3⟩ := hp
        obtain ⟨hr, hl3, hl4, hk4, hkf⟩ := fin (some (.goto t)) W3 hk3
        exact ⟨_, _, hr, hkf, .inr ⟨rfl, .goto t, (hIx _).turn hi3 (Turned.putObj _ hl3 rfl (by omega)), hl4, hk4, hx⟩⟩
      | panic ch => exact hp.elim
      | outgrown => exact hp.elim
    · rintro e W2 ⟨⟨v, rfl⟩, (⟨xs, X, hS, hi, hl, hk, hx⟩ | ⟨pre, X, hSp, c, hi, hl, hk, hx⟩)⟩
      · exact ⟨none, _, by have := run_endLoop (P := P) hl (by rw [hrec]; simp); rw [hrec] at this; exact this, hdone _ xs X _ (Nat.le_refl _) hS (hI.turn hi (Turned.putObj _ hl rfl (by omega))) ((World.putObj_heap_other (by omega)).trans hk)⟩
      · exact ⟨some c, _, by have := run_endLoop (P := P) hl (by rw [hrec]; simp); rw [hrec] at this; exact this, hstop _ c pre X _ (Nat.le_refl _) hSp ((hIx c).turn hi (Turned.putObj _ hl rfl (by omega))) ((World.putObj_heap_other (by omega)).trans hk)⟩
end Vt
end Go.Proofs.Ytlddogigbodilaa
