/-
  THE WALK OF move: a raw step on a disk, and what should come of it.
-/
import Derived.Test.YtpjfoinkifkdoaaTl1
import Derived.Test.YtpjfoinkifkdoaaTl3
import Derived.Test.YtpjfoinkifkdoaaRj
import Derived.Test.YtpjfoinkifkdoaaDkf
import Derived.Test.YtpjfoinkifkdoaaDke
import Derived.Test.YtpjfoinkifkdoaaDk8
namespace Go.Proofs.Ytpjfoinkifkdoaa
open Go.RowKit Go.Maps
namespace Tl
open Vt Dk
attribute [local go_sem ↓] append_hid
def pk (c : Int) (n : Nat) : Nat := (if c < 0 then (-(c + 1)).toNat else c.toNat) % n
theorem pk_lt (c : Int) {n : Nat} (h : 0 < n) : pk c n < n := Nat.mod_lt _ h
set_option maxRecDepth 100000 in
theorem pick_is (c : Int) (n : Nat) (w : World) (h1 : -9223372036854775808 ≤ c) (h2 : c ≤ 9223372036854775807) (hn : 0 < n) (hn2 : n ≤ 9223372036854775807) :
    Calls Try.prog 6 #[.int .i64 c, .int .i64 (n : Int)] w fun e w' => e = .returned (.int .i64 ((pk c n : Nat) : Int)) ∧ w' = w := by
  have hnz : (((n : Nat) : Int) == 0) = false := by simp; omega
  have hne : ¬ ((n : Nat) : Int) = 0 := by omega
  by_cases h : c < 0
  · obtain ⟨k, hk⟩ : ∃ k : Nat, c = -((k : Int) + 1) := ⟨(-(c + 1)).toNat, by omega⟩
    have HS : Hid (pk c n = k % n) := by
      show pk c n = k % n
      unfold pk; rw [if_pos h, hk]
      congr 1
      omega
    rw [HS.out]
    go_enter Try.func6, Try.ntmps6
    go_wp2
    go_ret
    have e : (-((k : Int) + 1) + 1) = -(k : Int) := by omega
    refine ⟨?_, rfl⟩
    show Ending.returned (Value.int IntKind.i64 (-((-((k : Int) + 1) + 1).tmod (n : Int)))) = _
    rw [e, Int.neg_tmod, Int.neg_neg]
    rfl
  · obtain ⟨k, rfl⟩ : ∃ k : Nat, c = (k : Int) := ⟨c.toNat, by omega⟩
    have HS : Hid (pk (k : Int) n = k % n) := by
      show pk (k : Int) n = k % n
      unfold pk; rw [if_neg h, Int.toNat_natCast]
    rw [HS.out]
    go_enter Try.func6, Try.ntmps6
    go_wp2
    go_ret
    exact ⟨rfl, rfl⟩
theorem quiet_at {f : FuncId} {args : Array Value} {wr : World} {c x : Nat} {v : Value} (h : Calls Try.prog f args (wr.drewN (c + x)) fun e w' => e = .returned v ∧ w' = wr.drewN (c + x)) : Calls Try.prog f args (wr.drewN (c + x)) fun e w'' => e = .returned v ∧ ∃ n, w'' = wr.drewN (c + n) :=
  h.mono fun _ _ ⟨he, hm⟩ => ⟨he, x, hm⟩
theorem quiet_at0 {f : FuncId} {args : Array Value} {wr : World} {x : Nat} {v : Value} (h : Calls Try.prog f args (wr.drewN x) fun e w' => e = .returned v ∧ w' = wr.drewN x) : Calls Try.prog f args (wr.drewN x) fun e w'' => e = .returned v ∧ ∃ n, w'' = wr.drewN n :=
  h.mono fun _ _ ⟨he, hm⟩ => ⟨he, x, hm⟩
def nm1 (p : Nat) : ByteArray := if p = 0 then ⟨#[97]⟩ else if p = 1 then ⟨#[98]⟩ else ⟨#[99]⟩
theorem nm1_is (p : Nat) : isNm (nm1 p) = true := by unfold nm1; split; rfl; split <;> rfl
theorem slice_abc {p : Nat} (h : p < 3) (w : World) : (slO 9 (.string ⟨#[97, 98, 99]⟩) (some (.int .i64 (p : Int))) (some (.int .i64 ((p : Int) + 1))) none).run Try.prog w = .ok (.string (nm1 p)) w := by
  obtain rfl | rfl | rfl : p = 0 ∨ p = 1 ∨ p = 2 := by omega
  · kernel_rfl
  · kernel_rfl
  · kernel_rfl
attribute [local go_sem ↓] slice_hid
theorem jr_free {E : TypeId} {sz : Nat} {w : World} {base g n c p : Nat} {l : List (List Value)} (h : JR E sz w base (.slice (some ⟨g, 0, none⟩) n c) l) : w.frozen? ⟨g, p, none⟩ = false := by
  obtain ⟨_, _, ⟨q, _⟩ | ⟨g', cap', cur, q, _, hh, _⟩⟩ := h
  · cases q
  · injection q with q _ _
    injection q with q
    injection q with q
    subst q
    simp [World.frozen?, hh]
/-- what is left of a step -/
def MvPost (B : Nat) (w0 : World) (d : Nat) (S : Ds) (e : Ending) (w' : World) : Prop := ∃ u S' cs', e = .returned (.tuple #[u, .bool true]) ∧ Dq B w0 d S' u cs' cs' w' ∧ (cs'.map Prod.fst).Perm S'.fs ∧ Mv S S'
set_option maxRecDepth 100000 in
set_option maxHeartbeats 4000000 in
theorem move_is (B : Nat) (w0 w : World) (d : Nat) (S : Ds) (v : Value) (cs : List De) (rk ry rz rn : Int) (h : Dq B w0 d S v cs cs w) (hp : (cs.map Prod.fst).Perm S.fs) (hok : Ok S) (hcap : S.used + 500 ≤ S.cap) (hacts : S.acts ≤ 1000) (b1 : (Lit.int .i64 rk).wf = true) (b2 : (Lit.int .i64 ry).wf = true) (b3 : (Lit.int .i64 rz).wf = true) (b4 : (Lit.int .i64 rn).wf = true) :
    Calls Try.prog 5 #[.pointer (some ⟨d, 0, none⟩), v, .agg #[.int .i64 rk, .int .i64 ry, .int .i64 rz, .int .i64 rn]] w (MvPost B w0 d S) := by
  obtain ⟨a, c, rfl, _⟩ := h.row.shape
  rw [List.length_map] at h ⊢
  have hG := h.good
  have hlen : cs.length ≤ 1200 := by have h1 := hp.length_eq; rw [List.length_map] at h1; have := hG.cnt; omega
  have HP1 : Hid (∀ W, Calls Try.prog 6 #[.int .i64 ry, .int .i64 3] W fun e w' => e = .returned (.int .i64 ((pk ry 3 : Nat) : Int)) ∧ w' = W) := fun W => pick_is ry 3 W (bounds_i64 b2).1 (bounds_i64 b2).2 (by omega) (by omega)
  have HP2 : Hid (∀ W, Calls Try.prog 6 #[.int .i64 rz, .int .i64 3] W fun e w' => e = .returned (.int .i64 ((pk rz 3 : Nat) : Int)) ∧ w' = W) := fun W => pick_is rz 3 W (bounds_i64 b3).1 (bounds_i64 b3).2 (by omega) (by omega)
  have HP3 : Hid (∀ W, Calls Try.prog 6 #[.int .i64 rk, .int .i64 6] W fun e w' => e = .returned (.int .i64 ((pk rk 6 : Nat) : Int)) ∧ w' = W) := fun W => pick_is rk 6 W (bounds_i64 b1).1 (bounds_i64 b1).2 (by omega) (by omega)
  have hq1 := pk_lt ry (n := 3) (by omega)
  have hq2 := pk_lt rz (n := 3) (by omega)
  have hq3 := pk_lt rk (n := 6) (by omega)
  generalize pk ry 3 = p1 at *
  generalize pk rz 3 = p2 at *
  generalize pk rk 6 = p3 at *
  have s1 := fun W => slice_abc hq1 W
  have s2 := fun W => slice_abc hq2 W
  have hn1 := nm1_is p1
  have hn2 := nm1_is p2
  generalize nm1 p1 = n1 at *
  generalize nm1 p2 = n2 at *
  obtain ⟨W, hW⟩ : ∃ W, W = w.alloc (.cells #[.int .i64 rk, .int .i64 ry, .int .i64 rz, .int .i64 rn] 36) := ⟨_, rfl⟩
  have hbW : Below w.heap.size w W := by rw [hW]; exact (Below.refl _ w).alloc (Nat.le_refl _) _
  have hBk : Blk W w.heap.size 36 [.int .i64 rk, .int .i64 ry, .int .i64 rz, .int .i64 rn] := by rw [hW]; exact Blk.new w _ _
  have e0 : W.cell? ⟨w.heap.size, 0, none⟩ = some (.int .i64 rk) := hBk.cell 0 _ rfl
  have e1 : W.cell? ⟨w.heap.size, 1, none⟩ = some (.int .i64 ry) := hBk.cell 1 _ rfl
  have e2 : W.cell? ⟨w.heap.size, 2, none⟩ = some (.int .i64 rz) := hBk.cell 2 _ rfl
  have e3 : W.cell? ⟨w.heap.size, 3, none⟩ = some (.int .i64 rn) := hBk.cell 3 _ rfl
  have HQ := hd (h.bel hbW); have HW := hd hW; have HP := hd hp; have HOK := hd hok; have HG := hd hG
  have HV := hd (valueOf_is rn)
  have HB4 := hd b4
  clear h hp hok hG hbW hBk hW b1 b2 b3 b4
  go_enter Try.func5, Try.ntmps5
  go_wp2_with fail
  rw [← HW.out]
  go_quiet ((go_at_call 6; first | exact quiet_at0 (HP1.out _) | exact quiet_at (HP1.out _)))
  generalize nq = n0
  go_wp2_with fail
  go_quiet ((go_at_call 6; first | exact quiet_at0 (HP2.out _) | exact quiet_at (HP2.out _)))
  go_wp2_with fail
  generalize hW1 : W.drewN (n0 + nq) = W1
  have hbd : Below W.heap.size W W1 := by rw [← hW1]; exact ⟨rfl, rfl, rfl, Nat.le_refl _, fun _ _ => rfl⟩
  have HQ1 := hd (HQ.out.bel hbd)
  have f0 : W1.cell? ⟨w.heap.size, 0, none⟩ = some (.int .i64 rk) := by rw [← hW1]; exact e0
  have f3 : W1.cell? ⟨w.heap.size, 3, none⟩ = some (.int .i64 rn) := by rw [← hW1]; exact e3
  have HFI := hd (find_is W1 B (.slice a cs.length c) cs n1 HQ1.out.row (by omega))
  clear hbd hW1 e0 e1 e2 e3 HQ HP1 HP2 s1 s2 HW
  refine Calls.mono HFI.out ?_
  rintro e w2 ⟨rfl, hw2⟩
  rw [hw2]
  clear hw2 HFI
  rcases ix_get HP.out HG.out.names n1 with ⟨hix, hget, hno⟩ | ⟨k, x, hix, hkx, hxn, hget⟩
  · rw [hix]
    have HGET := hd hget; have HNO := hd hno
    clear hix hget hno
    obtain rfl | rfl | rfl | rfl | h45 : p3 = 0 ∨ p3 = 1 ∨ p3 = 2 ∨ p3 = 3 ∨ 4 ≤ p3 := by omega
    · obtain ⟨S', hS1, hS2, hS3⟩ := create_none HOK.out hn1 HGET.out
      obtain ⟨g5, c5, w5, hr5, hq5⟩ := HQ1.out.push (⟨n1, [], 0⟩, none, 0) rfl (by omega)
      have HCR := hd (hq5.act fun O hK _ _ => create_is w5 d O S n1 hK (by omega))
      rw [hS1] at HCR
      have HFS := hd hS2; have HMV := hd hS3
      simp only [List.length_nil, Int.natCast_zero] at hr5
      clear hS1 hS2 hS3 hq5
      go_wp2_with fail
      refine Calls.mono (HP3.out _) ?_
      rintro e w3 ⟨rfl, hw3⟩
      rw [hw3]
      clear hw3
      go_wp2_with fail
      refine Calls.mono HCR.out ?_
      rintro e w6 ⟨rfl, hq6⟩
      have HPO : Hid (MvPost B w0 d S (.returned (.tuple #[.slice (some ⟨g5, 0, none⟩) (cs.length + 1) c5, .bool true])) w6) := by
        refine ⟨_, S', _, rfl, hq6.weak fun y hy => ?_, ?_, HMV.out⟩
        · rcases List.mem_append.1 hy with hy | hy
          · exact .inr ⟨y, hy, rfl, rfl⟩
          · rw [List.mem_singleton.1 hy]; exact .inl ⟨rfl, rfl⟩
        · rw [HFS.out, List.map_append]
          exact HP.out.append (List.Perm.refl _)
      clear hq6 HCR
      go_wp2_with fail
      go_ret2
      exact HPO.out
    · have HA := hd (HQ1.out.act fun O hK _ _ => sync_is W1 d O S n1 hK (by omega))
      rw [sync_none HOK.out hn1 HGET.out] at HA
      go_wp2_with fail
      refine Calls.mono (HP3.out _) ?_
      rintro e w3 ⟨rfl, hw3⟩
      rw [hw3]
      clear hw3
      go_wp2_with fail
      refine Calls.mono HA.out ?_
      rintro e w6 ⟨rfl, hq6⟩
      have HPO : Hid (MvPost B w0 d S (.returned (.tuple #[.slice a cs.length c, .bool true])) w6) := ⟨_, S, cs, rfl, hq6, HP.out, mv_same HOK.out⟩
      clear hq6 HA
      go_wp2_with fail
      go_ret2
      exact HPO.out
    · have HA := hd (HQ1.out.act fun O hK _ _ => rename_is W1 d O S n1 n2 hK (by omega))
      rw [rename_none HOK.out hn1 hn2 HGET.out] at HA
      go_wp2_with fail
      refine Calls.mono (HP3.out _) ?_
      rintro e w3 ⟨rfl, hw3⟩
      rw [hw3]
      clear hw3
      go_wp2_with fail
      refine Calls.mono HA.out ?_
      rintro e w6 ⟨rfl, hq6⟩
      have HPO : Hid (MvPost B w0 d S (.returned (.tuple #[.slice a cs.length c, .bool true])) w6) := ⟨_, S, cs, rfl, hq6, HP.out, mv_same HOK.out⟩
      clear hq6 HA
      go_wp2_with fail
      go_ret2
      exact HPO.out
    · have HA := hd (HQ1.out.act fun O hK _ _ => remove_is W1 d O S n1 hK (by omega))
      rw [remove_none HOK.out hn1 HGET.out] at HA
      go_wp2_with fail
      refine Calls.mono (HP3.out _) ?_
      rintro e w3 ⟨rfl, hw3⟩
      rw [hw3]
      clear hw3
      go_wp2_with fail
      refine Calls.mono HA.out ?_
      rintro e w6 ⟨rfl, hq6⟩
      have HPO : Hid (MvPost B w0 d S (.returned (.tuple #[.slice a cs.length c, .bool true])) w6) := ⟨_, S, cs, rfl, hq6, HP.out, mv_same HOK.out⟩
      clear hq6 HA
      go_wp2_with fail
      go_ret2
      exact HPO.out
    · go_wp2_with fail
      refine Calls.mono (HP3.out _) ?_
      rintro e w3 ⟨rfl, hw3⟩
      rw [hw3]
      clear hw3
      have g0 : ((p3 : Int) == 0) = false := by rw [beq_eq_false_iff_ne]; omega
      have g1 : ((p3 : Int) == 1) = false := by rw [beq_eq_false_iff_ne]; omega
      have g2 : ((p3 : Int) == 2) = false := by rw [beq_eq_false_iff_ne]; omega
      have g3 : ((p3 : Int) == 3) = false := by rw [beq_eq_false_iff_ne]; omega
      go_wp2_with fail
      refine Calls.mono (HV.out W1 HB4.out) ?_
      rintro e w4 ⟨t, ht, rfl, hb4⟩
      obtain ⟨c4, w5, hr4, hI5, hb5⟩ := conv_bytes w4 t (by unfold maxLen; omega)
      have hq5 := (HQ1.out.bel hb4).bel hb5
      have htl : (bl t).length = t.size := bl_len t
      rw [← htl] at hI5 hr4
      have hln : (bl t).length ≤ 500 := by omega
      have hfar : ∀ O, DK w5 d O S → (bl t ≠ [] → ∀ b off n c, Value.slice (some ⟨w4.heap.size, 0, none⟩) (bl t).length c4 = .slice (some ⟨b, off, none⟩) n c → b ≠ d) := fun O hK _ b off n c q => by
        injection q with q _ _
        injection q with q
        injection q with q
        have h0 : d < w4.heap.size := by
          obtain ⟨O1, hK1, _⟩ := (HQ1.out.bel hb4).ex
          obtain ⟨m1, es1, hk⟩ := hK1
          exact hk.olt d hk.own.1
        omega
      have HA := hd (hq5.act fun O hK _ _ => append_is w5 d O S n1 (.slice (some ⟨w4.heap.size, 0, none⟩) (bl t).length c4) (bl t) hK (by omega) hI5 (hfar O hK))
      rw [append_none HOK.out hn1 _ HGET.out] at HA
      clear hq5 hI5 hb4 hb5 htl hln hfar
      generalize (bl t).length = tl at *
      go_wp2_with fail
      refine Calls.mono HA.out ?_
      rintro e w6 ⟨rfl, hq6⟩
      have HPO : Hid (MvPost B w0 d S (.returned (.tuple #[.slice a cs.length c, .bool true])) w6) := ⟨_, S, cs, rfl, hq6, HP.out, mv_same HOK.out⟩
      clear hq6 HA
      go_wp2_with fail
      go_ret2
      exact HPO.out
  · rw [hix]
    have hkl : k < cs.length := (List.getElem?_eq_some_iff.1 hkx).1
    have HGET := hd hget; have HKX := hd hkx; have HXN := hd hxn
    have HND := hd (nd_of HP.out HG.out.names)
    have HIX := hd hix
    clear hix hget hkx hxn
    obtain rfl | rfl | rfl | rfl | h45 : p3 = 0 ∨ p3 = 1 ∨ p3 = 2 ∨ p3 = 3 ∨ 4 ≤ p3 := by omega
    · have HA := hd (HQ1.out.act fun O hK _ _ => create_is W1 d O S n1 hK (by omega))
      rw [create_some HOK.out hn1 HGET.out] at HA
      go_wp2_with fail
      refine Calls.mono (HP3.out _) ?_
      rintro e w3 ⟨rfl, hw3⟩
      rw [hw3]
      clear hw3
      go_wp2_with fail
      refine Calls.mono HA.out ?_
      rintro e w6 ⟨rfl, hq6⟩
      have HPO : Hid (MvPost B w0 d S (.returned (.tuple #[.slice a cs.length c, .bool true])) w6) := ⟨_, S, cs, rfl, hq6, HP.out, mv_same HOK.out⟩
      clear hq6 HA
      go_wp2_with fail
      go_ret2
      exact HPO.out
    · obtain ⟨S', hS1, hS2, hS3⟩ := sync_some HOK.out hn1 HGET.out
      have HA := hd (HQ1.out.act fun O hK _ _ => sync_is W1 d O S n1 hK (by omega))
      rw [hS1] at HA
      have HFS := hd hS2; have HMV := hd hS3
      clear hS1 hS2 hS3
      go_wp2_with fail
      refine Calls.mono (HP3.out _) ?_
      rintro e w3 ⟨rfl, hw3⟩
      rw [hw3]
      clear hw3
      go_wp2_with fail
      refine Calls.mono HA.out ?_
      rintro e w6 ⟨rfl, hq6⟩
      obtain ⟨g, hg, hgn, hc1, hc2, c0, c1, c2⟩ := JR.nth hq6.row HKX.out
      subst hg
      have fz : w6.frozen? ⟨g, k * 3 + 2, none⟩ = false := jr_free hq6.row
      have hq7 := hq6.set (j := 2) (u := .int .i64 (x.1.dat.length : Int)) (x' := ({ x.1 with las := x.1.dat.length }, x.2)) HKX.out (by omega) rfl
      have HPO : Hid (MvPost B w0 d S (.returned (.tuple #[.slice (some ⟨g, 0, none⟩) cs.length c, .bool true])) (w6.setCell ⟨g, k * 3 + 2, none⟩ (.int .i64 (x.1.dat.length : Int)))) := by
        refine ⟨_, S', _, rfl, hq7.weak fun y hy => ?_, ?_, HMV.out⟩
        · rcases List.mem_or_eq_of_mem_set hy with hy | hy
          · exact .inr ⟨y, hy, rfl, rfl⟩
          · exact .inr ⟨x, List.mem_of_getElem? HKX.out, by rw [hy], by rw [hy]⟩
        · rw [HFS.out, set_fst HND.out HKX.out (fun f => { f with las := f.dat.length }) rfl, HXN.out]
          exact upd_perm HP.out _ _
      clear hq6 hq7 HA
      go_wp2_with fail
      go_ret2
      exact HPO.out
    · obtain ⟨S', hS1, hS2, hS3⟩ := rename_some HOK.out hn1 hn2 HGET.out
      have HA := hd (HQ1.out.act fun O hK _ _ => rename_is W1 d O S n1 n2 hK (by omega))
      rw [hS1] at HA
      have HFS := hd hS2; have HMV := hd hS3
      clear hS1 hS2 hS3
      go_wp2_with fail
      refine Calls.mono (HP3.out _) ?_
      rintro e w3 ⟨rfl, hw3⟩
      rw [hw3]
      clear hw3
      go_wp2_with fail
      refine Calls.mono HA.out ?_
      rintro e w6 ⟨rfl, hq6⟩
      by_cases hnn : n1 = n2
      · have hnb : (n1.toList == n2.toList) = true := str_yes hnn
        have HPO : Hid (MvPost B w0 d S (.returned (.tuple #[.slice a cs.length c, .bool true])) w6) := by
          refine ⟨_, S', cs, rfl, hq6, ?_, HMV.out⟩
          rw [HFS.out, ← hnn, ← HXN.out]
          exact HP.out.trans (same_ren HG.out.names (get_mem HGET.out).1)
        clear hq6 HA hnn
        go_wp2_with fail
        go_ret2
        exact HPO.out
      · have hnb : (n1.toList == n2.toList) = false := str_ne hnn
        obtain ⟨g, hg, hgn, hc1, hc2, c0, c1, c2⟩ := JR.nth hq6.row HKX.out
        subst hg
        obtain ⟨Wb, hWb⟩ : ∃ Wb, Wb = w6.alloc (.cells #[.string n2, .slice x.2.1 x.1.dat.length x.2.2, .int .i64 (x.1.las : Int)] TK) := ⟨_, rfl⟩
        have hbb : Below w6.heap.size w6 Wb := by rw [hWb]; exact (Below.refl _ w6).alloc (Nat.le_refl _) _
        have hBk : Blk Wb w6.heap.size TK [.string n2, .slice x.2.1 x.1.dat.length x.2.2, .int .i64 (x.1.las : Int)] := by rw [hWb]; exact Blk.new w6 _ _
        have hqb := hq6.bel hbb
        have HWO := hd (without_is Wb B (.slice (some ⟨g, 0, none⟩) cs.length c) cs (k : Int) hqb.row (by omega))
        have HQB := hd hqb; have HBK := hd hBk; have HWB := hd hWb
        have hsb : w6.heap.size < Wb.heap.size := hBk.lt
        clear hq6 HA hqb hBk hbb hWb
        go_wp2_with fail
        rw [← HWB.out]
        refine Calls.mono HWO.out ?_
        rintro e w7 ⟨u7, rfl, hJ7, hb7⟩
        have hwo : wo cs (k : Int) = cutD cs n1 := by rw [← HIX.out]; exact wo_eq HND.out n1
        rw [hwo] at hJ7
        have hq7 := HQB.out.rows hb7 hJ7
        obtain ⟨a7, c7, hu7, _⟩ := hJ7.shape
        rw [List.length_map] at hu7
        subst hu7
        have hl7 : (cutD cs n1).length ≤ 1200 := Nat.le_trans (List.length_filter_le _ _) hlen
        have HF7 := hd (find_is w7 B (.slice a7 (cutD cs n1).length c7) (cutD cs n1) n2 hq7.row (by omega))
        have HW7 := hd (without_is w7 B (.slice a7 (cutD cs n1).length c7) (cutD cs n1) (ixI (cutD cs n1) n2) hq7.row (by omega))
        have HB7 : Hid (Blk w7 w6.heap.size TK [.string n2, .slice x.2.1 x.1.dat.length x.2.2, .int .i64 (x.1.las : Int)]) := (hb7.block _ hsb).trans HBK.out
        have hs7 : w6.heap.size < w7.heap.size := Nat.lt_of_lt_of_le hsb hb7.size
        have HQ7 := hd hq7
        clear hJ7 hb7 hwo hq7 HWO HQB HBK
        go_wp2_with fail
        refine Calls.mono HF7.out ?_
        rintro e w7' ⟨rfl, hw7⟩
        rw [hw7]
        clear hw7 HF7
        go_wp2_with fail
        refine Calls.mono HW7.out ?_
        rintro e w8 ⟨u8, rfl, hJ8, hb8⟩
        have hn7 : Nd (cutD cs n1) := by unfold Nd; rw [cutD_fst]; exact HND.out.sublist List.filter_sublist
        rw [wo_eq hn7 n2] at hJ8
        have hq8 := HQ7.out.rows hb8 hJ8
        obtain ⟨a8, c8, hu8, _⟩ := hJ8.shape
        rw [List.length_map] at hu8
        subst hu8
        have hB8 : Blk w8 w6.heap.size TK [.string n2, .slice x.2.1 x.1.dat.length x.2.2, .int .i64 (x.1.las : Int)] := (hb8.block _ hs7).trans HB7.out
        have y0 : w8.cell? ⟨w6.heap.size, 0, none⟩ = some (.string n2) := hB8.cell 0 _ rfl
        have y1 : w8.cell? ⟨w6.heap.size, 1, none⟩ = some (.slice x.2.1 x.1.dat.length x.2.2) := hB8.cell 1 _ rfl
        have y2 : w8.cell? ⟨w6.heap.size, 2, none⟩ = some (.int .i64 (x.1.las : Int)) := hB8.cell 2 _ rfl
        have hl8 : (cutD (cutD cs n1) n2).length ≤ 1200 := Nat.le_trans (List.length_filter_le _ _) hl7
        obtain ⟨g9, c9, w9, hr9, hq9⟩ := hq8.push ({ x.1 with nm := n2 }, x.2) rfl (by omega)
        have HPO : Hid (MvPost B w0 d S (.returned (.tuple #[.slice (some ⟨g9, 0, none⟩) ((cutD (cutD cs n1) n2).length + 1) c9, .bool true])) w9) := by
          refine ⟨_, S', _, rfl, hq9.weak fun y hy => ?_, ?_, HMV.out⟩
          · rcases List.mem_append.1 hy with hy | hy
            · exact .inr ⟨y, (List.mem_filter.1 (List.mem_filter.1 hy).1).1, rfl, rfl⟩
            · rw [List.mem_singleton.1 hy]
              exact .inr ⟨x, List.mem_of_getElem? HKX.out, rfl, rfl⟩
          · rw [HFS.out, List.map_append, cutD_fst, cutD_fst]
            exact (del_perm (del_perm HP.out _) _).append (List.Perm.refl _)
        clear hJ8 hb8 hq8 hB8 hq9 HW7 HQ7 HB7 hn7
        generalize (cutD (cutD cs n1) n2).length = n8 at *
        go_wp2_with fail
        go_ret2
        exact HPO.out
    · obtain ⟨S', hS1, hS2, hS3⟩ := remove_some HOK.out hn1 HGET.out
      have HA := hd (HQ1.out.act fun O hK _ _ => remove_is W1 d O S n1 hK (by omega))
      rw [hS1] at HA
      have HFS := hd hS2; have HMV := hd hS3
      clear hS1 hS2 hS3
      go_wp2_with fail
      refine Calls.mono (HP3.out _) ?_
      rintro e w3 ⟨rfl, hw3⟩
      rw [hw3]
      clear hw3
      go_wp2_with fail
      refine Calls.mono HA.out ?_
      rintro e w6 ⟨rfl, hq6⟩
      have HWO := hd (without_is w6 B (.slice a cs.length c) cs (k : Int) hq6.row (by omega))
      have HQ6 := hd hq6
      clear hq6 HA
      go_wp2_with fail
      refine Calls.mono HWO.out ?_
      rintro e w7 ⟨u7, rfl, hJ7, hb7⟩
      have hwo : wo cs (k : Int) = cutD cs n1 := by rw [← HIX.out]; exact wo_eq HND.out n1
      rw [hwo] at hJ7
      have HPO : Hid (MvPost B w0 d S (.returned (.tuple #[u7, .bool true])) w7) := by
        refine ⟨_, S', _, rfl, (HQ6.out.rows hb7 hJ7).weak fun y hy => .inr ⟨y, (List.mem_filter.1 hy).1, rfl, rfl⟩, ?_, HMV.out⟩
        rw [HFS.out, cutD_fst]
        exact del_perm HP.out _
      clear hJ7 hb7 HWO hwo
      go_wp2_with fail
      go_ret2
      exact HPO.out
    · go_wp2_with fail
      refine Calls.mono (HP3.out _) ?_
      rintro e w3 ⟨rfl, hw3⟩
      rw [hw3]
      clear hw3
      have g0 : ((p3 : Int) == 0) = false := by rw [beq_eq_false_iff_ne]; omega
      have g1 : ((p3 : Int) == 1) = false := by rw [beq_eq_false_iff_ne]; omega
      have g2 : ((p3 : Int) == 2) = false := by rw [beq_eq_false_iff_ne]; omega
      have g3 : ((p3 : Int) == 3) = false := by rw [beq_eq_false_iff_ne]; omega
      go_wp2_with fail
      refine Calls.mono (HV.out W1 HB4.out) ?_
      rintro e w4 ⟨t, ht, rfl, hb4⟩
      obtain ⟨c4, w5, hr4, hI5, hb5⟩ := conv_bytes w4 t (by unfold maxLen; omega)
      have hq5 := (HQ1.out.bel hb4).bel hb5
      have htl : (bl t).length = t.size := bl_len t
      rw [← htl] at hI5 hr4
      have hln : (bl t).length ≤ 500 := by omega
      have hfar : ∀ O, DK w5 d O S → (bl t ≠ [] → ∀ b off n c, Value.slice (some ⟨w4.heap.size, 0, none⟩) (bl t).length c4 = .slice (some ⟨b, off, none⟩) n c → b ≠ d) := fun O hK _ b off n c q => by
        injection q with q _ _
        injection q with q
        injection q with q
        have h0 : d < w4.heap.size := by
          obtain ⟨O1, hK1, _⟩ := (HQ1.out.bel hb4).ex
          obtain ⟨m1, es1, hk⟩ := hK1
          exact hk.olt d hk.own.1
        omega
      obtain ⟨S', hS1, hS2, hS3⟩ := append_some HOK.out hn1 hln hcap HGET.out
      have hq5b : Dq B w0 d S (.slice a cs.length c) cs ((⟨n1, bl t, 0⟩, some ⟨w4.heap.size, 0, none⟩, c4) :: cs) w5 := (HQ1.out.bel hb4).addB hb5 hI5 (fun b off q => by injection q with q; injection q with q; omega)
      have HA := hd (hq5b.act fun O hK _ _ => append_is w5 d O S n1 (.slice (some ⟨w4.heap.size, 0, none⟩) (bl t).length c4) (bl t) hK (by omega) hI5 (hfar O hK))
      rw [hS1] at HA
      have HFS := hd hS2; have HMV := hd hS3
      have hxl : x.1.dat.length ≤ 4194304 := by
        have h1 := get_len_le HGET.out
        have h2 := HG.out.used; have h3 := HG.out.room; have h4 := HG.out.cap
        omega
      obtain ⟨tb, htb⟩ : ∃ tb, tb = bl t := ⟨_, rfl⟩
      rw [← htb] at HA HFS hr4 hln
      clear hq5 hI5 hb4 hb5 htl hfar hS1 hS2 hS3 hq5b htb
      go_wp2_with fail
      refine Calls.mono HA.out ?_
      rintro e w6 ⟨rfl, hq6⟩
      obtain ⟨g, hg, hgn, hc1, hc2, c0, c1, c2⟩ := JR.nth hq6.row HKX.out
      subst hg
      have HJN := hd (joined_is (.slice x.2.1 x.1.dat.length x.2.2) (.slice (some ⟨w4.heap.size, 0, none⟩) tb.length c4) x.1.dat tb w6 (hq6.byt (List.mem_cons_of_mem _ (List.mem_of_getElem? HKX.out))) (hq6.byt (c := (⟨n1, tb, 0⟩, some ⟨w4.heap.size, 0, none⟩, c4)) (List.mem_cons_self)) (by omega))
      have HQ6 := hd hq6
      clear hq6 HA
      go_wp2_with fail
      refine Calls.mono HJN.out ?_
      rintro e w7 ⟨u7, rfl, hJ7, hb7⟩
      obtain ⟨au, cu, rfl, hcu⟩ := JK.shape (k := .u8) (M := 256) (E := 5) hJ7
      have hq7 := HQ6.out.add hb7 (c := ({ x.1 with dat := x.1.dat ++ tb }, au, cu)) hJ7
      obtain ⟨g', hg', _, _, _, d0, d1, d2⟩ := JR.nth hq7.row HKX.out
      injection hg' with hg'
      injection hg' with hg'
      subst hg'
      have fz : w7.frozen? ⟨g, k * 3 + 1, none⟩ = false := jr_free hq7.row
      have hq8 := hq7.set (j := 1) (u := .slice au (x.1.dat ++ tb).length cu) (x' := ({ x.1 with dat := x.1.dat ++ tb }, au, cu)) HKX.out (by omega) rfl
      have HPO : Hid (MvPost B w0 d S (.returned (.tuple #[.slice (some ⟨g, 0, none⟩) cs.length c, .bool true])) (w7.setCell ⟨g, k * 3 + 1, none⟩ (.slice au (x.1.dat ++ tb).length cu))) := by
        refine ⟨_, S', _, rfl, hq8.weak fun y hy => ?_, ?_, HMV.out⟩
        · rcases List.mem_or_eq_of_mem_set hy with hy | hy
          · exact .inr ⟨y, List.mem_cons_of_mem _ (List.mem_cons_of_mem _ hy), rfl, rfl⟩
          · exact .inr ⟨_, List.mem_cons_self, by rw [hy], by rw [hy]⟩
        · rw [HFS.out, set_fst HND.out HKX.out (fun f => { f with dat := f.dat ++ tb }) rfl, HXN.out]
          exact upd_perm HP.out _ _
      clear hq7 hq8 hJ7 hb7 HJN
      generalize (x.1.dat ++ tb).length = nl at *
      go_wp2_with fail
      go_ret2
      exact HPO.out
end Tl
end Go.Proofs.Ytpjfoinkifkdoaa
