/-
  escape.Next at any bytes, none at all too.
  ROWS OF STRUCTS OF THE CALL'S OWN ('JR': elements of sz cells each): 'append' of one more as a law for the walk, within a fence and without; what is read at a place.
  WHAT scan.located TELLS: the list 'locs'; the contract of its iterator, for every loop body that keeps the blocks of S.
-/
import Derived.Test.YtnjhbidialngmaaXhai
import Derived.Test.YtnjhbidialngmaaXhbg
import Derived.Test.YtnjhbidialngmaaXhbe
namespace Go.Proofs.Ytnjhbidialngmaa
open Go.RowKit
namespace Vt
theorem run_index0 (a : Option Addr) (c : Nat) (cv : Int) (w : World) : (Extern.BytealgIndexByte.indexByte #[.slice a 0 c, .int .u8 cv]).run Try.prog w = .ok (.int .i64 (-1)) w := by
  cases a with
  | none => exact Lib.run_indexByteNil w 0 c cv
  | some x => 
    have hs := Lib.run_indexByteString (P := Try.prog) .empty cv w
    exact hs
set_option maxHeartbeats 1000000 in
set_option maxRecDepth 100000 in
theorem index_nil (a : Option Addr) (c : Nat) (w : World) :
    Calls Try.prog 68 #[.slice a 0 c, .int .u8 167] w fun e w' => e = .returned (.int .i64 (-1)) ∧ w' = w := by
  have L := ixLays
  have t3 := L.t3; have t5 := L.t5; have t37 := L.t37
  have a3 := L.a3; have a5 := L.a5; have a37 := L.a37
  have mixed := L.mixed; have z3 := L.z3; have v3 := L.v3; have z5 := L.z5; have v5 := L.v5; have z37 := L.z37; have v37 := L.v37
  go_enter Try.func68, Try.ntmps68
  go_wp2
  rw [run_callFunc_extern Try.func88 (by kernel_rfl) (by kernel_rfl) (by kernel_rfl) (e := Extern.BytealgIndexByte.indexByte) (by kernel_rfl), run_index0 a c 167 w]
  simp only [Result.andThen]
  rw [Oper.upon_value]
  go_wp2
  go_ret
  exact ⟨rfl, rfl⟩
set_option maxRecDepth 100000 in
set_option maxHeartbeats 400000 in
theorem next_nil (a : Option Addr) (c : Nat) (z : Int) (w : World) :
    Calls Try.prog 47 #[.slice a 0 c, .int .i64 z] w fun e w' => e = .returned (.int .i64 0) ∧ w' = w := by
  have e1 : min (max z 0) 0 = 0 := by omega
  have HC : Hid (∀ a, Calls Try.prog 68 #[.slice a 0 c, .int .u8 167] w fun e w' => e = .returned (.int .i64 (-1)) ∧ w' = w) := fun a => index_nil a c w
  cases a with
  | none =>
    go_enter Try.func47, Try.ntmps47
    go_wp2_with fail
    refine Calls.mono (HC.out _) ?_
    rintro e w' ⟨rfl, rfl⟩
    clear HC
    go_wp2_with fail
    go_ret
    exact ⟨rfl, rfl⟩
  | some x =>
    obtain ⟨b, o, s⟩ := x
    go_enter Try.func47, Try.ntmps47
    go_wp2_with fail
    refine Calls.mono (HC.out _) ?_
    rintro e w' ⟨rfl, rfl⟩
    clear HC
    go_wp2_with fail
    go_ret
    exact ⟨rfl, rfl⟩
theorem next_is (v : Value) (l : List Nat) (z : Int) (w : World) (hI : IsB w v l) :
    Calls Try.prog 47 #[v, .int .i64 z] w fun e w' => e = .returned (.int .i64 ((nxt l z : Nat) : Int)) ∧ w' = w := by
  obtain ⟨hb, hm, ⟨rfl, a, c, rfl⟩ | ⟨b, off, c, rfl, h1, h2, h3, h4⟩⟩ := hI
  · have : nxt [] z = 0 := by unfold nxt frm; simp [nx]
    rw [this]; exact next_nil a c z w
  · exact next_row b off c l z w hb h4 h1 h2
end Vt
end Go.Proofs.Ytnjhbidialngmaa
namespace Go.Proofs.Ytnjhbidialngmaa
open Go.RowKit Go.Shelf
namespace Vt
end Vt
end Go.Proofs.Ytnjhbidialngmaa
namespace Go.Proofs.Ytnjhbidialngmaa
open Go.RowKit Go.Shelf
namespace Vt
attribute [local go_sem] Oper.semAt_some
/-- 'scan.located(b, from)': both are boxed; the function value captures the boxes. -/
theorem located_is (a : Option Addr) (len cap : Nat) (z : Int) (w : World) :
    Calls Try.prog 83 #[.slice a len cap, .int .i64 z] w fun e w' => e = .returned (.func (.func 98) #[] #[.pointer (some ⟨w.heap.size, 0, none⟩), .pointer (some ⟨w.heap.size + 1, 0, none⟩)]) ∧ w' = (w.alloc (.cells #[.slice a len cap] 36)).alloc (.cells #[.int .i64 z] 3) := by
  go_enter Try.func83, Try.ntmps83
  go_wp2
  go_ret
  exact ⟨rfl, rfl⟩
/-- what is told: a place, a length, a frame that may be -/
abbrev PL (B : Nat) := { x : Lc // x.1 + x.2.1 ≤ B ∧ 9 ≤ x.2.1 ∧ rf x.2.2 = 0 ∧ x.2.2.Wf }
/-- its cells -/
def lcv (x : Lc) : List Value := [.int .i64 x.2.2.kind, .int .u64 (x.2.2.r.lsn : Int), .int .i64 x.2.2.r.kind, .string x.2.2.r.key, .string x.2.2.r.val, .int .u64 (x.2.2.p.lsn : Int), .int .i64 x.2.2.p.kind, .int .i64 x.2.2.p.at_, .int .i64 x.2.2.p.len, .string x.2.2.p.key, .int .i64 x.2.2.e.count, .int .i64 x.2.2.e.bytes, .int .i64 x.2.2.e.frames, .int .u32 (x.2.2.e.sum : Int), .int .i64 (x.1 : Int), .int .i64 (x.2.1 : Int)]
abbrev encl {B : Nat} (x : PL B) : Array Value := #[.agg (lcv x.1).toArray]
theorem nxt_at {l : List Nat} {k : Nat} (h : k ≤ l.length) : nxt l (k : Int) = k + nx (l.drop k) := by
  unfold nxt frm; rw [Int.toNat_natCast, Nat.min_eq_left h]
theorem nxt_le (l : List Nat) (z : Int) : nxt l z ≤ l.length := by
  unfold nxt
  have h1 : frm l.length z ≤ l.length := by unfold frm; omega
  have h2 := nx_le (l.drop (frm l.length z))
  rw [List.length_drop] at h2
  omega
theorem locs_nxt {l : List Nat} (hb : Byt l) (z : Int) : locs (frm l.length z) (l.drop (frm l.length z)) = locs (nxt l z) (l.drop (nxt l z)) := by
  have := locs_next (byt_drop hb (frm l.length z)) (frm l.length z)
  rw [List.drop_drop] at this
  exact this
theorem grown_of_below {w w' : World} (h : Below w.heap.size w w') : w.grownBy w' none := ⟨h.os, h.tape, h.output, h.size, fun k hk _ => h.block k hk⟩
set_option maxRecDepth 100000 in
set_option maxHeartbeats 2000000 in
theorem located1_in (n : Nat) (hn : 1 ≤ n) (B : Nat) (S : Nat → Prop) (l Bs Bf b off cap : Nat) (z : Int) (zs : List Nat) (hzB : zs.length ≤ B) (hz : Byt zs) (hlc : zs.length ≤ cap) (hcm : cap ≤ maxLen) (hb : S b) (hBn : S Bs) (J Jx : List (PL B) → World → Prop) (W : World) (hSl : ∀ k, S k → k < W.heap.size) (hJa : AbidesFrom W.heap.size J)
    (hY : ∀ pre x W, J pre W → pre.length < zs.length → YieldAt Fence.wide (n - 1) Try.prog l (encl x) W fun e W' =>
      (e = .returned (.bool true) ∧ J (pre ++ [x]) W' ∧ KeepS S W W') ∨ (e = .returned (.bool false) ∧ Jx (pre ++ [x]) W'))
    (hBs : W.cell? ⟨Bs, 0, none⟩ = some (.slice (some ⟨b, off, none⟩) zs.length cap)) (hBf : W.cell? ⟨Bf, 0, none⟩ = some (.int .i64 z)) (hbW : b < W.heap.size) (hc : Row W b off zs) (h0 : J [] W) :
    CallsIn Fence.wide n Try.prog 98 #[.func (.yield l) #[] #[], .pointer (some ⟨Bs, 0, none⟩), .pointer (some ⟨Bf, 0, none⟩)] W fun e W' => (∃ v, e = .returned v) ∧
      ((∃ ys : List (PL B), ys.map Subtype.val = locs (frm zs.length z) (zs.drop (frm zs.length z)) ∧ J ys W') ∨ (∃ pre : List (PL B), pre.map Subtype.val <+: locs (frm zs.length z) (zs.drop (frm zs.length z)) ∧ Jx pre W')) := by
  have hmm := hcm
  unfold maxLen at hmm
  have hI0 : IsB W (.slice (some ⟨b, off, none⟩) zs.length cap) zs := ⟨hz, by omega, .inr ⟨b, off, cap, rfl, hlc, hcm, hbW, hc⟩⟩
  have HN0 := hd ((callsIn_wide (n := n - 1)).2 (next_is _ zs z W hI0))
  have hn0 := nxt_le zs z
  have HL0 := hd (locs_nxt hz z)
  have hll : (locs (frm zs.length z) (zs.drop (frm zs.length z))).length ≤ zs.length := by
    have := locs_len (byt_drop hz (frm zs.length z)) _ (Nat.le_refl _) (frm zs.length z)
    rw [List.length_drop] at this
    omega
  obtain ⟨LL, hLL⟩ : ∃ LL, LL = locs (frm zs.length z) (zs.drop (frm zs.length z)) := ⟨_, rfl⟩
  rw [← hLL] at HL0 hll ⊢
  have HLL := hd hll
  clear hLL hll hI0
  generalize nxt zs z = a0 at *
  refine callsIn_of_wp Try.func98 rfl trivial ?_ rfl
  simp only [Try.ntmps98, List.size_toArray, List.length_cons, List.length_nil, Nat.reduceAdd, Nat.reduceSub, Array.replicate_succ, Array.replicate_zero, List.push_toArray, List.append_toArray, List.nil_append, List.cons_append]
  gi_wp2
  refine ⟨trivial, CallsIn.mono HN0.out ?_⟩
  rintro e w' ⟨rfl, hw'⟩
  have hw2 := hw'.symm
  subst hw2
  clear HN0 hw'
  gi_wp2
  gi_loopw [4] (fun i wr => ∃ (at_ : Nat) (pre : List (PL B)), at_ ≤ zs.length ∧ i = .int .i64 (at_ : Int) ∧ LL = pre.map Subtype.val ++ locs at_ (zs.drop at_) ∧ J pre wr ∧ KeepS S W wr) (fun i _ => zs.length - (intOf i).toNat)
  case atStart => exact ⟨a0, [], hn0, rfl, HL0.out, h0, KeepS.refl _⟩
  case round =>
    obtain ⟨at_, pre, hat, rfl, hall, hJs, hnx⟩ := hrel
    have HALL := hd hall
    have hcb : wr.cell? ⟨Bs, 0, none⟩ = some (.slice (some ⟨b, off, none⟩) zs.length cap) := (hnx.cell (p := ⟨Bs, 0, none⟩) hBn).trans hBs
    clear hall
    by_cases hlt : at_ < zs.length
    · have hI : IsB wr (.slice (some ⟨b, off, none⟩) zs.length cap) zs := ⟨hz, by omega, .inr ⟨b, off, cap, rfl, hlc, hcm, Nat.lt_of_lt_of_le hbW hnx.size, fun k hk => (hnx.cell (p := ⟨b, off + k, none⟩) hb).trans (hc k hk)⟩⟩
      have HC := hd ((callsIn_wide (n := n - 1)).2 (decode_all _ zs (at_ : Int) wr hI))
      have hlat : (zs.drop at_).length = zs.length - at_ := List.length_drop
      have hdec : decF zs (at_ : Int) = dcd (zs.drop at_) := by unfold decF; rw [if_neg (by omega), Int.toNat_natCast]
      rw [hdec] at HC
      have hbd := byt_drop hz at_
      by_cases he : (dcd (zs.drop at_)).2.2 = 0
      · obtain ⟨k1, k2, k3, k4, k5⟩ := en_dcd hbd he
        have hp := en_pos (dcd (zs.drop at_)).1
        have hok := locs_ok hbd at_ he
        rw [hlat] at k4
        obtain ⟨f, q, er, hdd⟩ : ∃ f q er, dcd (zs.drop at_) = (f, q, er) := ⟨_, _, _, rfl⟩
        rw [hdd] at he k1 k2 k3 k4 hp hok HC
        simp only [List.drop_drop] at he k1 k2 k3 k4 hp hok
        subst he
        have hq9 : 9 ≤ q := by omega
        have hlen2 : pre.length < zs.length := by
          have h1 := HLL.out
          rw [HALL.out, hok, List.length_append, List.length_map, List.length_cons] at h1
          omega
        have hnl := locs_next (byt_drop hz (at_ + q)) (at_ + q)
        rw [List.drop_drop] at hnl
        have hnq := nx_le (zs.drop (at_ + q))
        rw [List.length_drop] at hnq
        have hnt := nxt_at (l := zs) (k := at_ + q) (by omega)
        rw [hnl] at hok
        obtain ⟨xx, hxx⟩ : ∃ xx : PL B, xx.1 = (at_, q, f) := ⟨⟨(at_, q, f), by show at_ + q ≤ B; omega, hq9, k1, k2⟩, rfl⟩
        have HOK := hd hok
        clear hok hdd hdec hnl k1 k2 k3 k5 hp hbd
        obtain ⟨k, ⟨rl, rk, rkey, rval⟩, ⟨pl, pk, pa, pn, pkey⟩, ⟨ec, eb, ef, es⟩⟩ := f
        have HXX := hd hxx
        have hJn : ∀ wq, Below wr.heap.size wr wq → J pre wq := fun wq hq => hJa pre wr wq none hJs (grown_of_below hq) (by intro r e; cases e)
        have HY : Hid (∀ wq, Below wr.heap.size wr wq → YieldAt Fence.wide (n - 1) Try.prog l #[.agg #[.int .i64 k, .int .u64 (rl : Int), .int .i64 rk, .string rkey, .string rval, .int .u64 (pl : Int), .int .i64 pk, .int .i64 pa, .int .i64 pn, .string pkey, .int .i64 ec, .int .i64 eb, .int .i64 ef, .int .u32 (es : Int), .int .i64 (at_ : Int), .int .i64 (q : Int)]] wq fun e W' =>
            (e = .returned (.bool true) ∧ J (pre ++ [xx]) W' ∧ KeepS S wq W') ∨ (e = .returned (.bool false) ∧ Jx (pre ++ [xx]) W')) := by
          intro wq hq
          have := hY pre xx wq (hJn wq hq) hlen2
          have e1 : encl xx = #[.agg #[.int .i64 k, .int .u64 (rl : Int), .int .i64 rk, .string rkey, .string rval, .int .u64 (pl : Int), .int .i64 pk, .int .i64 pa, .int .i64 pn, .string pkey, .int .i64 ec, .int .i64 eb, .int .i64 ef, .int .u32 (es : Int), .int .i64 (at_ : Int), .int .i64 (q : Int)]] := by
            unfold encl; rw [hxx]; rfl
          rwa [e1] at this
        have HNX := hd hnx
        have HDV : Hid (dval (⟨k, ⟨rl, rk, rkey, rval⟩, ⟨pl, pk, pa, pn, pkey⟩, ⟨ec, eb, ef, es⟩⟩, q, 0) = .tuple #[.agg #[.int .i64 k, .int .u64 (rl : Int), .int .i64 rk, .string rkey, .string rval, .int .u64 (pl : Int), .int .i64 pk, .int .i64 pa, .int .i64 pn, .string pkey, .int .i64 ec, .int .i64 eb, .int .i64 ef, .int .u32 (es : Int)], .int .i64 (q : Int), .int .i64 0]) := rfl
        rw [HDV.out] at HC
        clear hY hxx HDV hJn hI
        have HIN : Hid (∀ wq, KeepS S W wq → IsB wq (.slice (some ⟨b, off, none⟩) zs.length cap) zs) := fun wq hq => ⟨hz, by omega, .inr ⟨b, off, cap, rfl, hlc, hcm, Nat.lt_of_lt_of_le hbW hq.size, fun k hk => (hq.cell (p := ⟨b, off + k, none⟩) hb).trans (hc k hk)⟩⟩
        gi_wp2
        refine ⟨trivial, CallsIn.mono HC.out ?_⟩
        rintro e w1 ⟨rfl, hb1⟩
        have HB1 := hd hb1
        have hs1 := hb1.size
        clear HC hb1
        have HB2 : Hid (Below wr.heap.size wr (w1.alloc (.cells #[.int .i64 k, .int .u64 (rl : Int), .int .i64 rk, .string rkey, .string rval, .int .u64 (pl : Int), .int .i64 pk, .int .i64 pa, .int .i64 pn, .string pkey, .int .i64 ec, .int .i64 eb, .int .i64 ef, .int .u32 (es : Int)] 34))) := HB1.out.alloc hs1 _
        obtain ⟨fn, tmps, assign, body, hy, hR⟩ := HY.out _ HB2.out
        have HR := hd hR
        clear HY hR
        have hSl2 : ∀ k, S k → k < wr.heap.size := fun k hk => Nat.lt_of_lt_of_le (hSl k hk) HNX.out.size
        have HK2 : Hid (KeepS S W (w1.alloc (.cells #[.int .i64 k, .int .u64 (rl : Int), .int .i64 rk, .string rkey, .string rval, .int .u64 (pl : Int), .int .i64 pk, .int .i64 pa, .int .i64 pn, .string pkey, .int .i64 ec, .int .i64 eb, .int .i64 ef, .int .u32 (es : Int)] 34))) := HNX.out.trans (KeepS.of_below HB2.out hSl2)
        clear hSl2
        gi_wp2
        refine HR.out.mono ?_
        rintro e W3 (⟨rfl, hJ3, hk3⟩ | ⟨rfl, hJx3⟩)
        · have HK3 := hd (HK2.out.trans hk3)
          have hcb3 : W3.cell? ⟨Bs, 0, none⟩ = some (.slice (some ⟨b, off, none⟩) zs.length cap) := (HK3.out.cell (p := ⟨Bs, 0, none⟩) hBn).trans hBs
          have HN3 := hd ((callsIn_wide (n := n - 1)).2 (next_is _ zs ((at_ + q : Nat) : Int) W3 (HIN.out W3 HK3.out)))
          rw [hnt] at HN3
          have HQ := hd hnq
          generalize hgx : nx (zs.drop (at_ + q)) = nn at *
          have hcast : ((at_ + q : Nat) : Int) = (at_ : Int) + (q : Int) := by omega
          rw [hcast] at HN3
          clear hcast hnt hgx hcb hnx
          gi_wp2
          refine ⟨trivial, CallsIn.mono HN3.out ?_⟩
          rintro e w' ⟨rfl, hw'⟩
          subst hw'
          clear HN3
          gi_wp2
          go_roundw
          case rel => exact ⟨at_ + q + nn, pre ++ [xx], by have := HQ.out; omega, rfl, by rw [HALL.out, HOK.out, List.map_append, List.append_assoc, List.map_singleton, HXX.out]; rfl, hJ3, HK3.out⟩
          case measure => simp [intOf]; omega
        · gi_wp2
          refine bodyPost_ret (results_none rfl _ _ _) rfl ?_
          exact ⟨⟨_, rfl⟩, .inr ⟨pre ++ [xx], ⟨_, by rw [HALL.out, HOK.out, List.map_append, List.append_assoc, List.map_singleton, HXX.out]; rfl⟩, hJx3⟩⟩
      · obtain ⟨k1, k2⟩ := dcd_err he
        have hok := locs_err (at_ := at_) he
        rw [List.drop_drop] at hok
        have hnl := locs_next (byt_drop hz (at_ + 1)) (at_ + 1)
        rw [List.drop_drop] at hnl
        have hnq := nx_le (zs.drop (at_ + 1))
        rw [List.length_drop] at hnq
        have hnt := nxt_at (l := zs) (k := at_ + 1) (by omega)
        rw [hnl] at hok
        have HOK := hd hok
        obtain ⟨f, q, er, hdd⟩ : ∃ f q er, dcd (zs.drop at_) = (f, q, er) := ⟨_, _, _, rfl⟩
        rw [hdd] at he k1 k2 HC
        simp only at he k1 k2
        subst k1 k2
        rw [dval_zf] at HC
        have he2 : ((er : Int) != 0) = true := by simp; omega
        have HNX := hd hnx
        have hJn : ∀ wq, Below wr.heap.size wr wq → J pre wq := fun wq hq => hJa pre wr wq none hJs (grown_of_below hq) (by intro r e; cases e)
        have HJn := hd hJn
        have HIN : Hid (∀ wq, KeepS S W wq → IsB wq (.slice (some ⟨b, off, none⟩) zs.length cap) zs) := fun wq hq => ⟨hz, by omega, .inr ⟨b, off, cap, rfl, hlc, hcm, Nat.lt_of_lt_of_le hbW hq.size, fun k hk => (hq.cell (p := ⟨b, off + k, none⟩) hb).trans (hc k hk)⟩⟩
        clear hok hdd hdec hnl hbd hY hI hJn
        gi_wp2
        refine ⟨trivial, CallsIn.mono HC.out ?_⟩
        rintro e w1 ⟨rfl, hb1⟩
        have HB1 := hd hb1
        have hs1 := hb1.size
        clear HC hb1
        have HB2 : Hid (Below wr.heap.size wr (w1.alloc (.cells #[.int .i64 0, .int .u64 0, .int .i64 0, .string ⟨#[]⟩, .string ⟨#[]⟩, .int .u64 0, .int .i64 0, .int .i64 0, .int .i64 0, .string ⟨#[]⟩, .int .i64 0, .int .i64 0, .int .i64 0, .int .u32 0] 34))) := HB1.out.alloc hs1 _
        have HJ2 := hd (HJn.out _ HB2.out)
        have hSl2 : ∀ k, S k → k < wr.heap.size := fun k hk => Nat.lt_of_lt_of_le (hSl k hk) HNX.out.size
        have HK3 := hd (HNX.out.trans (KeepS.of_below HB2.out hSl2))
        obtain ⟨W3, hW3⟩ : ∃ W3, W3 = (w1.alloc (.cells #[.int .i64 0, .int .u64 0, .int .i64 0, .string ⟨#[]⟩, .string ⟨#[]⟩, .int .u64 0, .int .i64 0, .int .i64 0, .int .i64 0, .string ⟨#[]⟩, .int .i64 0, .int .i64 0, .int .i64 0, .int .u32 0] 34)) := ⟨_, rfl⟩
        rw [← hW3] at HJ2 HK3
        have hcb3 : W3.cell? ⟨Bs, 0, none⟩ = some (.slice (some ⟨b, off, none⟩) zs.length cap) := (HK3.out.cell (p := ⟨Bs, 0, none⟩) hBn).trans hBs
        have HN3 := hd ((callsIn_wide (n := n - 1)).2 (next_is _ zs ((at_ + 1 : Nat) : Int) W3 (HIN.out W3 HK3.out)))
        rw [hnt] at HN3
        have HQ := hd hnq
        generalize hgx : nx (zs.drop (at_ + 1)) = nn at *
        have hcast : ((at_ + 1 : Nat) : Int) = (at_ : Int) + 1 := by omega
        rw [hcast] at HN3
        clear hcast hnt hgx hcb hnx HB2 HJn hSl2
        rw [hW3] at hcb3 HN3
        gi_wp2
        refine ⟨trivial, CallsIn.mono HN3.out ?_⟩
        rintro e w' ⟨rfl, hw'⟩
        subst hw'
        clear HN3
        rw [← hW3]
        gi_wp2
        go_roundw
        case rel =>
          rw [hW3] at HJ2 HK3
          exact ⟨at_ + 1 + nn, pre, by have := HQ.out; omega, rfl, by rw [HALL.out, HOK.out], HJ2.out, HK3.out⟩
        case measure => simp [intOf]; omega
    · obtain rfl : at_ = zs.length := by omega
      rw [List.drop_length, locs_nil, List.append_nil] at HALL
      gi_wp2
      go_end0
      exact ⟨⟨_, rfl⟩, .inl ⟨_, HALL.out.symm, hJs⟩⟩
set_option maxRecDepth 100000 in
set_option maxHeartbeats 1000000 in
/-- .. at an empty list: no round. -/
theorem located1_nil_in {B : Nat} (n : Nat) (hn : 1 ≤ n) (l Bs Bf : Nat) (a : Option Addr) (c : Nat) (z : Int) (J : List (PL B) → World → Prop) (W : World) (hBs : W.cell? ⟨Bs, 0, none⟩ = some (.slice a 0 c)) (hBf : W.cell? ⟨Bf, 0, none⟩ = some (.int .i64 z)) (h0 : J [] W) :
    CallsIn Fence.wide n Try.prog 98 #[.func (.yield l) #[] #[], .pointer (some ⟨Bs, 0, none⟩), .pointer (some ⟨Bf, 0, none⟩)] W fun e W' => (∃ v, e = .returned v) ∧ J [] W' := by
  have HN0 := hd ((callsIn_wide (n := n - 1)).2 (next_nil a c z W))
  refine callsIn_of_wp Try.func98 rfl trivial ?_ rfl
  simp only [Try.ntmps98, List.size_toArray, List.length_cons, List.length_nil, Nat.reduceAdd, Nat.reduceSub, Array.replicate_succ, Array.replicate_zero, List.push_toArray, List.append_toArray, List.nil_append, List.cons_append]
  gi_wp2
  refine ⟨trivial, CallsIn.mono HN0.out ?_⟩
  rintro e w' ⟨rfl, hw'⟩
  have hw2 := hw'.symm
  subst hw2
  clear HN0 hw'
  gi_wp2
  gi_loopw [4] (fun i wr => i = .int .i64 0 ∧ wr = W) (fun _ _ => 0)
  case atStart => exact ⟨rfl, rfl⟩
  case round =>
    obtain ⟨rfl, rfl⟩ := hrel
    gi_wp2
    go_end0
    exact ⟨⟨_, rfl⟩, h0⟩
/-- scan.located HANDS BACK A VALUE THAT tells all of 'locs' from a place on, in order; or a beginning of it. -/
theorem located_stops (n : Nat) (hn : 1 ≤ n) (B : Nat) (S : Nat → Prop) (Bs Bf : Nat) (sv : Value) (z : Int) (zs : List Nat) (w : World) (hzB : zs.length ≤ B) (hBs : S Bs) (hBl : Bs < w.heap.size) (hBf : Bf < w.heap.size) (hSl : ∀ k, S k → k < w.heap.size)
    (hc : w.cell? ⟨Bs, 0, none⟩ = some sv) (hcf : w.cell? ⟨Bf, 0, none⟩ = some (.int .i64 z)) (hI : IsB w sv zs) (hlow : ∀ b off c, zs ≠ [] → sv = .slice (some ⟨b, off, none⟩) zs.length c → S b) :
    SeqStopsK Fence.wide n Try.prog 98 #[.pointer (some ⟨Bs, 0, none⟩), .pointer (some ⟨Bf, 0, none⟩)] (encl (B := B)) (KeepS S) (fun ys => ys.map Subtype.val = locs (frm zs.length z) (zs.drop (frm zs.length z))) (fun pre => pre.map Subtype.val <+: locs (frm zs.length z) (zs.drop (frm zs.length z))) zs.length w := fun l J Jx W hW hJ _ hY h0 => by
  have hc' := (hW.cell (p := ⟨Bs, 0, none⟩) hBl).trans hc
  have hcf' := (hW.cell (p := ⟨Bf, 0, none⟩) hBf).trans hcf
  have hI' := hI.below hW
  have hSl' : ∀ k, S k → k < W.heap.size := fun k hk => Nat.lt_of_lt_of_le (hSl k hk) hW.size
  obtain ⟨hz, _, ⟨rfl, a, c, rfl⟩ | ⟨b, off, c, rfl, h1, h2, h3, hr⟩⟩ := hI'
  · exact (located1_nil_in n hn l Bs Bf a c z J W hc' hcf' h0).mono fun e W' ⟨he, hj⟩ => ⟨he, .inl ⟨[], by simp [locs], hj⟩⟩
  · by_cases hne : zs = []
    · subst hne
      exact (located1_nil_in n hn l Bs Bf _ c z J W hc' hcf' h0).mono fun e W' ⟨he, hj⟩ => ⟨he, .inl ⟨[], by simp [locs], hj⟩⟩
    · exact located1_in n hn B S l Bs Bf b off c z zs hzB hz h1 h2 (hlow b off c hne rfl) hBs J Jx W hSl' hJ hY hc' hcf' h3 hr h0
end Vt
end Go.Proofs.Ytnjhbidialngmaa
