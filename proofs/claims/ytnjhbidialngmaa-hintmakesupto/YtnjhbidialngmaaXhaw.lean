/-
  THE REFERENCE OF LAYER 4: a pen: the next small number; the rest, or so many bytes of it.
  THE REFERENCE OF LAYER 4: salvorref4.plain: escaped bytes as they were.
-/
import Derived.Test.YtnjhbidialngmaaXhav
import Derived.Test.YtnjhbidialngmaaXhad
import Derived.Test.YtnjhbidialngmaaXhap
import Derived.Test.YtnjhbidialngmaaXhac
import Derived.Test.YtnjhbidialngmaaXhab
namespace Go.Proofs.Ytnjhbidialngmaa
open Go.RowKit
namespace Vt
/-- what small answers, and leaves -/
def psR (B : Nat) (l : List Nat) (at_ : Nat) (bad : Bool) (e : Ending) (w' : World) : Prop :=
  (((dec (l.drop at_)).2.2 = 0 ∧ (dec (l.drop at_)).1 ≤ 4294967295) ∧ e = .returned (.int .i64 ((dec (l.drop at_)).1 : Int)) ∧ PN w' B l (at_ + (dec (l.drop at_)).2.1) bad) ∨ (¬ ((dec (l.drop at_)).2.2 = 0 ∧ (dec (l.drop at_)).1 ≤ 4294967295) ∧ ∃ n a : Nat, n ≤ 4294967295 ∧ e = .returned (.int .i64 (n : Int)) ∧ PN w' B l a true)
attribute [local go_sem] Oper.semAt_some
set_option maxRecDepth 100000 in
set_option maxHeartbeats 1000000 in
theorem pen_small (B : Nat) (l : List Nat) (at_ : Nat) (bad : Bool) (w : World) (h : PN w B l at_ bad) (hm : l.length ≤ 4194304) :
    Calls Try.prog 101 #[.pointer (some ⟨B, 0, none⟩)] w fun e w' => psR B l at_ bad e w' ∧ KeepO B w w' := by
  have HN := hd (pen_number B l at_ bad w h hm)
  clear h
  go_enter Try.func101, Try.ntmps101
  go_wp2_with fail
  refine Calls.mono HN.out ?_
  rintro e w1 ⟨hr, hK⟩
  have HK := hd hK
  clear hK HN
  rcases hr with ⟨h0, rfl, hP⟩ | ⟨h0, n, a, hn, rfl, hP⟩
  · have HP := hd hP
    have H0 := hd h0
    obtain ⟨n, hnn⟩ : ∃ n, n = (dec (l.drop at_)).1 := ⟨_, rfl⟩
    rw [← hnn]
    have HNN := hd hnn
    obtain ⟨v, hB, _⟩ := hP
    have c2 := hB.cell 2 _ rfl
    have z2 := hB.frozen 2
    clear hB h0 hnn
    by_cases hb : n ≤ 4294967295
    · have hb1 : ¬ (n : Int) > 4294967295 := by omega
      go_wp2_with fail
      go_ret
      exact ⟨.inl ⟨⟨H0.out, by rw [← HNN.out]; exact hb⟩, by rw [← HNN.out]; rfl, HP.out⟩, HK.out⟩
    · have hb1 : (n : Int) > 4294967295 := by omega
      go_wp2_with fail
      go_ret
      exact ⟨.inr ⟨fun q => hb (by rw [HNN.out]; exact q.2), 0, _, by omega, rfl, HP.out.worse⟩, HK.out.trans (KeepO.set B 2 _ _)⟩
  · have HP := hd hP
    have H0 := hd h0
    obtain ⟨v, hB, _⟩ := hP
    have c2 := hB.cell 2 _ rfl
    have z2 := hB.frozen 2
    clear hB h0
    by_cases hb : n ≤ 4294967295
    · have hb1 : ¬ (n : Int) > 4294967295 := by omega
      go_wp2_with fail
      go_ret
      exact ⟨.inr ⟨fun q => H0.out q.1, n, _, hb, rfl, HP.out⟩, HK.out⟩
    · have hb1 : (n : Int) > 4294967295 := by omega
      go_wp2_with fail
      go_ret
      exact ⟨.inr ⟨fun q => H0.out q.1, 0, _, by omega, rfl, HP.out.worse⟩, HK.out.trans (KeepO.set B 2 _ _)⟩
/-! ### a part of a list, and its conversion, as words of our own -/
def slQ (t : TypeId) (x : Value) (lo hi mx : Option Value) : Sem Value := Instr.slice t x lo hi mx
theorem slice_hidQ (t : TypeId) (x : Value) (lo hi mx : Option Value) : Instr.slice t x lo hi mx = slQ t x lo hi mx := rfl
def cvQ (s t : TypeId) (v : Value) : Sem Value := convert s t v
theorem convert_hidQ (s t : TypeId) (v : Value) : convert s t v = cvQ s t v := rfl
theorem elem8Q : Try.prog.elem 36 = 5 := by kernel_rfl
theorem size8Q (w : World) : (sizeOf 5).run Try.prog w = .ok 1 w := by kernel_rfl
theorem sub_is {w0 : World} {a : Option Addr} {c : Nat} {l : List Nat} (hB : IsB w0 (.slice a l.length c) l) (lo k : Nat) (hk : lo + k ≤ l.length) : ∃ va vc, (∀ w, (slQ 36 (.slice a l.length c) (some (.int .i64 (lo : Int))) (some (.int .i64 ((lo + k : Nat) : Int))) none).run Try.prog w = .ok (.slice va k vc) w) ∧ IsB w0 (.slice va k vc) ((l.drop lo).take k) := by
  have hcap := hB.cap
  have hr : ∀ w, (slQ 36 (.slice a l.length c) (some (.int .i64 (lo : Int))) (some (.int .i64 ((lo + k : Nat) : Int))) none).run Try.prog w = .ok (sliced a lo (lo + k) c 1) w := by
    intro w
    have := run_slice_lh (P := Try.prog) w 36 a l.length c (by rw [elem8Q]; exact Try.underlying36) .i64 .i64 (lo : Int) ((lo + k : Nat) : Int) (by omega) (by omega) (by omega)
    rw [elem8Q, size8Q] at this
    exact this
  have e : sliced a lo (lo + k) c 1 = .slice (if c = lo then a else a.map (·.add (lo * 1))) k (c - lo) := by
    unfold sliced; rw [show lo + k - lo = k by omega]
  rw [e] at hr
  refine ⟨_, _, hr, ?_⟩
  have hB' := hB
  obtain ⟨_, _, ⟨rfl, _⟩ | ⟨b, off, c', h, _⟩⟩ := hB
  · have : lo = 0 ∧ k = 0 := by simp at hk; omega
    obtain ⟨rfl, rfl⟩ := this
    rw [List.drop_nil, List.take_nil]
    exact isK_nil _ _ _ _ _
  · injection h with h1 h2 h3
    subst h1 h3
    have hd := hB'.dropIf lo (by omega) hcap
    have ht := IsK.take hd k (by rw [List.length_drop]; omega)
    have e2 : (if c = lo then (some ⟨b, off, none⟩ : Option Addr) else (some ⟨b, off, none⟩ : Option Addr).map (·.add (lo * 1))) = if c = lo then some ⟨b, off, none⟩ else some ⟨b, off + lo, none⟩ := by
      split
      · rfl
      · simp only [Option.map_some, Nat.mul_one]
        congr 1
        unfold Addr.add
        split
        · subst_vars; rfl
        · rfl
    rw [e2]
    exact ht
/-- how many bytes rest takes -/
def rsN (l : List Nat) (at_ : Nat) (many : Int) : Nat := if many < 0 ∨ ((l.length - at_ : Nat) : Int) < many then l.length - at_ else many.toNat
attribute [local go_sem ↓] slice_hidQ convert_hidQ
set_option maxRecDepth 100000 in
set_option maxHeartbeats 1000000 in
theorem pen_rest (B : Nat) (l : List Nat) (at_ : Nat) (bad : Bool) (many : Int) (w : World) (h : PN w B l at_ bad) (hm : l.length ≤ 4194304) :
    Calls Try.prog 102 #[.pointer (some ⟨B, 0, none⟩), .int .i64 many] w fun e w' => e = .returned (.string (str ((l.drop at_).take (rsN l at_ many)))) ∧ PN w' B l (at_ + rsN l at_ many) bad ∧ KeepO B w w' := by
  have hmx : Try.prog.follows .mixedOrders = true := by kernel_rfl
  have HPN := hd h
  obtain ⟨v, hB, hI, hL, hle⟩ := h
  obtain ⟨a, c, rfl⟩ := hI.shape
  have c0 := hB.cell 0 _ rfl
  have c1 := hB.cell 1 _ rfl
  have z1 := hB.frozen 1
  have HI := hd hI
  have hkl : at_ + rsN l at_ many ≤ l.length := by unfold rsN; split <;> omega
  obtain ⟨va, vc, hsl, hsI⟩ := sub_is hI at_ (rsN l at_ many) hkl
  have hcv : ∀ m, (cvQ 36 9 (.slice va (rsN l at_ many) vc)).run Try.prog (w.drewN m) = .ok (.string (str ((l.drop at_).take (rsN l at_ many)))) (w.drewN m) := fun m => conv_is (w.drewN m) _ _ (hsI.below (below_dn w m))
  have HFIN : Hid (∀ m : Nat, PN ((w.drewN m).setCell ⟨B, 1, none⟩ (.int .i64 ((at_ + rsN l at_ many : Nat) : Int))) B l (at_ + rsN l at_ many) bad ∧ KeepO B w ((w.drewN m).setCell ⟨B, 1, none⟩ (.int .i64 ((at_ + rsN l at_ many : Nat) : Int)))) := fun m =>
    ⟨(HPN.out.below (below_dn _ m)).at _ hkl, (KeepO.of_below (below_dn _ m)).trans (KeepO.set B 1 _ _)⟩
  clear hB hI hsI
  have hls : ((l.length : Int) - (at_ : Int)) = ((l.length - at_ : Nat) : Int) := by omega
  by_cases hneg : many < 0
  · have hk : rsN l at_ many = l.length - at_ := by unfold rsN; rw [if_pos (.inl hneg)]
    rw [hk] at hsl hcv HFIN hkl ⊢
    clear hk
    obtain ⟨k, hk⟩ : ∃ k, k = l.length - at_ := ⟨_, rfl⟩
    rw [← hk] at hsl hcv HFIN hls hkl ⊢
    generalize str ((l.drop at_).take k) = S at *
    clear hk
    rw [Int.natCast_add] at hsl HFIN
    go_enter Try.func102, Try.ntmps102
    go_wp2_with fail
    go_quiet (fail)
    go_wp2_with fail
    go_quiet (fail)
    go_wp2_with fail
    go_quiet (fail)
    go_wp2_with fail
    go_ret
    exact ⟨rfl, HFIN.out _⟩
  · by_cases hbig : ((l.length - at_ : Nat) : Int) < many
    · have hk : rsN l at_ many = l.length - at_ := by unfold rsN; rw [if_pos (.inr hbig)]
      rw [hk] at hsl hcv HFIN hkl ⊢
      clear hk
      obtain ⟨k, hk⟩ : ∃ k, k = l.length - at_ := ⟨_, rfl⟩
      rw [← hk] at hsl hcv HFIN hls hkl hbig ⊢
      have hkb : (k : Int) ≤ 4194304 := by omega
      have hw : IntKind.i64.wrap (k : Int) = (k : Int) := by rw [IntKind.wrap_i64]; omega
      generalize str ((l.drop at_).take k) = S at *
      clear hk
      rw [Int.natCast_add] at hsl HFIN
      go_enter Try.func102, Try.ntmps102
      go_wp2_with fail
      go_quiet (fail)
      go_wp2_with fail
      go_quiet (fail)
      go_wp2_with fail
      go_quiet (fail)
      go_wp2_with fail
      go_ret
      exact ⟨rfl, HFIN.out _⟩
    · have hk : rsN l at_ many = many.toNat := by unfold rsN; rw [if_neg (by omega)]
      rw [hk] at hsl hcv HFIN hkl ⊢
      clear hk
      obtain ⟨k, rfl⟩ : ∃ k : Nat, many = (k : Int) := ⟨many.toNat, by omega⟩
      rw [Int.toNat_natCast] at hsl hcv HFIN hkl ⊢
      obtain ⟨len, hlen⟩ : ∃ len, len = l.length - at_ := ⟨_, rfl⟩
      rw [← hlen] at hls hbig
      have hb2 : ¬ (k : Int) > (len : Int) := by omega
      have hlb : (len : Int) ≤ 4194304 := by omega
      have hw : IntKind.i64.wrap (len : Int) = (len : Int) := by rw [IntKind.wrap_i64]; omega
      generalize str ((l.drop at_).take k) = S at *
      clear hlen hneg
      rw [Int.natCast_add] at hsl HFIN
      go_enter Try.func102, Try.ntmps102
      go_wp2_with fail
      go_quiet (fail)
      go_wp2_with fail
      go_quiet (fail)
      go_wp2_with fail
      go_ret
      exact ⟨rfl, HFIN.out _⟩
end Vt
end Go.Proofs.Ytnjhbidialngmaa
namespace Go.Proofs.Ytnjhbidialngmaa
open Go.RowKit
namespace Vt
theorem fs_166 {r : List Nat} (h : (fs r).2.2 ≠ 0) (h0 : r.getD 0 0 = 166) : r.length = 1 ∨ (2 ≤ r.length ∧ 2 ≤ r.getD 1 0) := by
  match r with
  | [] => simp at h0
  | [x] => exact .inl rfl
  | x :: y :: t =>
    simp at h0
    subst h0
    refine .inr ⟨by simp, ?_⟩
    rcases Nat.lt_or_ge y 2 with hy | hy
    · exfalso
      apply h
      unfold fs
      have : y = 0 ∨ y = 1 := by omega
      rcases this with rfl | rfl <;> simp
    · simpa using hy
theorem getD_at {A B C l : List Nat} (h : l = A ++ (B ++ C)) {m : Nat} (hm : m < B.length) : l.getD (A.length + m) 0 = B.getD m 0 := by
  rw [h, List.getD_eq_getElem?_getD, List.getD_eq_getElem?_getD, List.getElem?_append_right (by omega), Nat.add_sub_cancel_left, List.getElem?_append_left hm]
theorem tok {l p r : List Nat} (h : l = wr p ++ r) {j : Nat} (hj : j < p.length) :
    (wr (p.take (j + 1))).length = (wr (p.take j)).length + (e1 (p.getD j 0)).length ∧ (wr (p.take (j + 1))).length ≤ l.length ∧ ∀ m, m < (e1 (p.getD j 0)).length → l.getD ((wr (p.take j)).length + m) 0 = (e1 (p.getD j 0)).getD m 0 := by
  have e0 : wr p = wr (p.take (j + 1)) ++ wr (p.drop (j + 1)) := by rw [← wr_append, List.take_append_drop]
  have e1' := wr_succ hj
  have e2 : l = wr (p.take j) ++ (e1 (p.getD j 0) ++ (wr (p.drop (j + 1)) ++ r)) := by
    rw [h, e0, e1']; simp [List.append_assoc]
  refine ⟨by rw [e1', List.length_append], ?_, fun m hm => getD_at e2 hm⟩
  have := congrArg List.length e2
  rw [e1']
  simp only [List.length_append] at this ⊢
  omega
theorem tok_end {l p r : List Nat} (h : l = wr p ++ r) (m : Nat) : l.getD ((wr p).length + m) 0 = r.getD m 0 := by
  rw [h, List.getD_eq_getElem?_getD, List.getD_eq_getElem?_getD, List.getElem?_append_right (by omega), Nat.add_sub_cancel_left]
theorem lit1 (ch : Nat) (h : ch < 256) (W : World) : IsB (W.alloc (.cells #[.int .u8 (ch : Int)] 5)) (.slice (some ⟨W.heap.size, 0, none⟩) 1 1) [ch] :=
  lit_isK .u8 256 W _ 5 [ch] 1 rfl rfl (by intro y hy; rw [List.mem_singleton] at hy; omega) (by simp [maxLen])
attribute [local go_sem] Oper.semAt_some
set_option maxRecDepth 100000 in
set_option maxHeartbeats 2000000 in
theorem r4_plain_row (b off c : Nat) (l p r : List Nat) (w : World) (hI : IsB w (.slice (some ⟨b, off, none⟩) l.length c) l) (hm : l.length ≤ 4194304) (hpr : l = Vt.wr p ++ r) (hr : r = [] ∨ r ≠ [] ∧ (fs r).2.2 ≠ 0) :
    Calls Try.prog 86 #[.slice (some ⟨b, off, none⟩) l.length c] w fun e w' => ((r = [] ∧ ∃ u, e = .returned (.tuple #[u, .bool true]) ∧ JB w' w.heap.size u p) ∨ (r ≠ [] ∧ e = .returned (.tuple #[.slice none 0 0, .bool false]))) ∧ Below w.heap.size w w' := by
  have HI := hd hI
  have HPR := hd hpr
  have hbl := hI.1
  have HBY := hd hbl
  have hll := congrArg List.length hpr
  rw [List.length_append] at hll
  have hpl := (wr_len p).1
  have HPB := hd (part_byt hpr hbl)
  have hpl2 : p.length ≤ l.length := by omega
  have HLL := hd hll
  clear hI hpr hbl hll hpl
  go_enter Try.func86, Try.ntmps86
  go_wp2_with fail
  go_loopw [4, 5] (fun v y wi => ∃ j : Nat, j ≤ p.length ∧ y = .int .i64 ((Vt.wr (p.take j)).length : Int) ∧ JB wi w.heap.size v (p.take j) ∧ Below w.heap.size w wi) (fun _ y _ => l.length - (intOf y).toNat)
  case atStart => exact ⟨0, by omega, rfl, jb_nil _ _, Below.refl _ _⟩
  case round =>
    obtain ⟨j, hj, rfl, hJ, hB⟩ := hrel
    have HB := hd hB
    have hsz := hB.size
    have HROW := hd ((HI.out.below hB).row)
    have hcap := (HI.out.below hB).cap
    have hq : (p.take j).length ≤ 4194304 := by rw [List.length_take]; omega
    obtain ⟨q, hqe⟩ : ∃ q, q = p.take j := ⟨_, rfl⟩
    have HQ := hd hqe
    rw [← hqe] at hJ hq
    have HJ : Hid (JB wr w.heap.size u4 q) := hJ
    clear hJ hB hqe
    by_cases hlt : j < p.length
    · obtain ⟨t1, t2, t3⟩ := tok HPR.out hlt
      have hcb : p.getD j 0 < 256 := getD_lt HPB.out j
      have htk : p.take (j + 1) = q ++ [p.getD j 0] := by rw [take_succ_getD hlt, HQ.out]
      have HTK := hd htk
      obtain ⟨i, hi⟩ : ∃ i, i = (Vt.wr (p.take j)).length := ⟨_, rfl⟩
      rw [← hi] at t1 t3 ⊢
      generalize p.getD j 0 = ch at *
      by_cases h7 : ch = 167
      · subst h7
        have z0 : l.getD i 0 = 166 := t3 0 (by decide)
        have z1 : l.getD (i + 1) 0 = 1 := t3 1 (by decide)
        have tl : (e1 167).length = 2 := rfl
        rw [tl] at t1
        have HLN := hd t1
        have il : i + 1 < l.length := by omega
        have c0 := HROW.out i (by omega)
        have c1 := HROW.out (i + 1) il
        rw [z0] at c0
        rw [z1] at c1
        have il1 : i < l.length := by omega
        have il2 : ((i : Int) + 1 == (l.length : Int)) = false := by simp; omega
        clear t1 t2 t3 hi z0 z1 tl htk
        have HLT := lit1 167 (by decide)
        go_wp2_with (at_builtin; refine wpList_append_jb _ rfl _ _ rfl w.heap.size u4 (.slice (some ⟨wr.heap.size, 0, none⟩) 1 1) q [167] rfl rfl (HJ.out.alloc _) (HLT wr) (q.length + 1) rfl _ rfl (by omega) (by rw [World.size_alloc]; omega) ?_; intro a2 cap2 w2 hJ2 hg2 hc2)
        have HJ2 := hd hJ2
        have HB2 := hd ((HJ.out.alloc _).grown (HB.out.alloc hsz _) (Nat.le_refl _) (by rw [World.size_alloc]; omega) hg2)
        clear hJ2 hg2
        go_roundw
        case rel => exact ⟨j + 1, by omega, by rw [HLN.out]; go_num, by rw [HTK.out]; exact HJ2.out, HB2.out⟩
        case measure => simp [intOf]; omega
      · by_cases h6 : ch = 166
        · subst h6
          have z0 : l.getD i 0 = 166 := t3 0 (by decide)
          have z1 : l.getD (i + 1) 0 = 0 := t3 1 (by decide)
          have tl : (e1 166).length = 2 := rfl
          rw [tl] at t1
          have HLN := hd t1
          have il : i + 1 < l.length := by omega
          have c0 := HROW.out i (by omega)
          have c1 := HROW.out (i + 1) il
          rw [z0] at c0
          rw [z1] at c1
          have il1 : i < l.length := by omega
          have il2 : ((i : Int) + 1 == (l.length : Int)) = false := by simp; omega
          clear t1 t2 t3 hi z0 z1 tl htk
          have HLT := lit1 166 (by decide)
          go_wp2_with (at_builtin; refine wpList_append_jb _ rfl _ _ rfl w.heap.size u4 (.slice (some ⟨wr.heap.size, 0, none⟩) 1 1) q [166] rfl rfl (HJ.out.alloc _) (HLT wr) (q.length + 1) rfl _ rfl (by omega) (by rw [World.size_alloc]; omega) ?_; intro a2 cap2 w2 hJ2 hg2 hc2)
          have HJ2 := hd hJ2
          have HB2 := hd ((HJ.out.alloc _).grown (HB.out.alloc hsz _) (Nat.le_refl _) (by rw [World.size_alloc]; omega) hg2)
          clear hJ2 hg2
          go_roundw
          case rel => exact ⟨j + 1, by omega, by rw [HLN.out]; go_num, by rw [HTK.out]; exact HJ2.out, HB2.out⟩
          case measure => simp [intOf]; omega
        · rw [e1_any h7 h6] at t1 t3
          have z0 : l.getD i 0 = ch := t3 0 (by simp)
          have HLN := hd t1
          have c0 := HROW.out i (by simp at t1; omega)
          rw [z0] at c0
          have il1 : i < l.length := by simp at t1; omega
          have b7 : ((ch : Int) == 167) = false := by simp; omega
          have b6 : ((ch : Int) != 166) = true := by simp; omega
          clear t1 t2 t3 hi z0 htk
          have HLT := lit1 ch hcb
          go_wp2_with (at_builtin; refine wpList_append_jb _ rfl _ _ rfl w.heap.size u4 (.slice (some ⟨wr.heap.size, 0, none⟩) 1 1) q [ch] rfl rfl (HJ.out.alloc _) (HLT wr) (q.length + 1) rfl _ rfl (by omega) (by rw [World.size_alloc]; omega) ?_; intro a2 cap2 w2 hJ2 hg2 hc2)
          have HJ2 := hd hJ2
          have HB2 := hd ((HJ.out.alloc _).grown (HB.out.alloc hsz _) (Nat.le_refl _) (by rw [World.size_alloc]; omega) hg2)
          clear hJ2 hg2
          go_roundw
          case rel => exact ⟨j + 1, by omega, by rw [HLN.out]; go_num, by rw [HTK.out]; exact HJ2.out, HB2.out⟩
          case measure => simp [intOf]; omega
    · have hje : j = p.length := by omega
      have hqp : q = p := by rw [HQ.out, hje, List.take_length]
      have hie : (Vt.wr (p.take j)).length = (Vt.wr p).length := by rw [hje, List.take_length]
      rw [hie]
      have hend := fun m => tok_end HPR.out m
      have hll := HLL.out
      obtain ⟨i, hi⟩ : ∃ i, i = (Vt.wr p).length := ⟨_, rfl⟩
      rw [← hi] at hend hll ⊢
      subst hqp
      clear hje hie hi HQ
      rcases hr with hr | ⟨hr1, hr2⟩
      · subst hr
        have hil : i = l.length := by simp at hll; omega
        subst hil
        clear hend hll
        go_wp2_with fail
        go_ret2
        exact ⟨⟨_, rfl, HJ.out⟩, HB.out⟩
      · have hrl : 1 ≤ r.length := by cases r with
          | nil => exact absurd rfl hr1
          | cons x y => simp
        have il : i < l.length := by omega
        have c0 := HROW.out i il
        have z0 := hend 0
        rw [Nat.add_zero] at z0
        rcases fs_err r with h0 | ⟨_, h0⟩ | ⟨_, h0⟩
        · exact absurd h0 hr2
        · rw [z0, h0] at c0
          have HR1 := hd hr1
          clear hend hll hr2 hr1 z0 h0
          go_wp2_with fail
          go_ret2
          exact ⟨.inr ⟨HR1.out, rfl⟩, HB.out⟩
        · rw [z0, h0] at c0
          have HR1 := hd hr1
          rcases fs_166 hr2 h0 with h1 | ⟨h1, h2⟩
          · have il2 : ((i : Int) + 1 == (l.length : Int)) = true := by simp; omega
            clear hend hll hr2 hr1 z0 h0 h1
            go_wp2_with fail
            go_ret2
            exact ⟨.inr ⟨HR1.out, rfl⟩, HB.out⟩
          · have il1 : i + 1 < l.length := by omega
            have il2 : ((i : Int) + 1 == (l.length : Int)) = false := by simp; omega
            have c1 := HROW.out (i + 1) il1
            rw [hend 1] at c1
            have hb2 : (r.getD 1 0 : Int) > 1 := by omega
            obtain ⟨y, hy⟩ : ∃ y, y = r.getD 1 0 := ⟨_, rfl⟩
            rw [← hy] at c1 hb2
            clear hend hll hr2 hr1 z0 h0 h1 h2 hy
            go_wp2_with fail
            go_ret2
            exact ⟨.inr ⟨HR1.out, rfl⟩, HB.out⟩
set_option maxRecDepth 100000 in
theorem r4_plain_nil (a : Option Addr) (c : Nat) (w : World) :
    Calls Try.prog 86 #[.slice a 0 c] w fun e w' => (∃ u, e = .returned (.tuple #[u, .bool true]) ∧ JB w' w.heap.size u []) ∧ Below w.heap.size w w' := by
  go_enter Try.func86, Try.ntmps86
  go_wp2_with fail
  go_loopw [4, 5] (fun v y wi => v = .slice none 0 0 ∧ y = .int .i64 0 ∧ wi = w) (fun _ _ _ => 0)
  case atStart => exact ⟨rfl, rfl, rfl⟩
  case round =>
    obtain ⟨rfl, rfl, rfl⟩ := hrel
    go_wp2_with fail
    go_ret2
    exact ⟨⟨_, rfl, jb_nil _ _⟩, Below.refl _ _⟩
/-- 'plain' of any bytes -/
theorem r4_plain (v : Value) (l : List Nat) (w : World) (hI : IsB w v l) (hm : l.length ≤ 4194304) :
    Calls Try.prog 86 #[v] w fun e w' => (((badB 0 l).1 = 0 ∧ ∃ u, e = .returned (.tuple #[u, .bool true]) ∧ JB w' w.heap.size u (plain l)) ∨ ((badB 0 l).1 ≠ 0 ∧ e = .returned (.tuple #[.slice none 0 0, .bool false]))) ∧ Below w.heap.size w w' := by
  have hI' := hI
  obtain ⟨_, _, ⟨rfl, a, c, rfl⟩ | ⟨b, off, c, rfl, _⟩⟩ := hI
  · refine (r4_plain_nil a c w).mono ?_
    rintro e w' ⟨h1, h2⟩
    exact ⟨.inl ⟨rfl, h1⟩, h2⟩
  · obtain ⟨p, r, hpr, hr⟩ := part l
    refine (r4_plain_row b off c l p r w hI' hm hpr hr).mono ?_
    rintro e w' ⟨⟨rfl, u, rfl, hJ⟩ | ⟨hr1, rfl⟩, hB⟩
    · rw [List.append_nil] at hpr
      refine ⟨.inl ⟨by rw [hpr, badB_wr], u, rfl, ?_⟩, hB⟩
      rw [hpr, plain_wr]; exact hJ
    · rcases hr with hr | ⟨_, hr2⟩
      · exact absurd hr hr1
      · refine ⟨.inr ⟨?_, rfl⟩, hB⟩
        rw [hpr, (part_bad hr1 hr2).2]
        exact hr2
end Vt
end Go.Proofs.Ytnjhbidialngmaa
