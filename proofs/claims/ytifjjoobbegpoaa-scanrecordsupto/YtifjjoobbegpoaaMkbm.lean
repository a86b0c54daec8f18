/-
  THE REFERENCE OF LAYER 4: a pen: the next small number; the rest, or so many bytes of it.
-/
import Derived.Test.YtifjjoobbegpoaaMkbl
namespace Go.Proofs.Ytifjjoobbegpoaa
open Go.RowKit
namespace Vt
/-- what small answers, and leaves -/
def psR (B : Nat) (l : List Nat) (at_ : Nat) (bad : Bool) (e : Ending) (w' : World) : Prop :=
  (((dec (l.drop at_)).2.2 = 0 ∧ (dec (l.drop at_)).1 ≤ 4294967295) ∧ e = .returned (.int .i64 ((dec (l.drop at_)).1 : Int)) ∧ PN w' B l (at_ + (dec (l.drop at_)).2.1) bad) ∨ (¬ ((dec (l.drop at_)).2.2 = 0 ∧ (dec (l.drop at_)).1 ≤ 4294967295) ∧ ∃ n a : Nat, n ≤ 4294967295 ∧ e = .returned (.int .i64 (n : Int)) ∧ PN w' B l a true)
attribute [local go_sem] Oper.semAt_some
set_option maxRecDepth 100000 in
set_option maxHeartbeats 1000000 in
theorem pen_small (B : Nat) (l : List Nat) (at_ : Nat) (bad : Bool) (w : World) (h : PN w B l at_ bad) (hm : l.length ≤ 4194304) :
    Calls Try.prog 80 #[.pointer (some ⟨B, 0, none⟩)] w fun e w' => psR B l at_ bad e w' ∧ KeepO B w w' := by
  have HN := hd (pen_number B l at_ bad w h hm)
  clear h
  go_enter Try.func80, Try.ntmps80
  go_wp2_with fail
  refine Calls.mono HN.out ?_
  rintro e w1 ⟨hr, hK⟩
  have HK := hd hK
  clear hK HN
  rcases hr with ⟨h0, rfl, hP⟩ | ⟨h0, n, a, hn, rfl, hP⟩
  · have HP := hd hP
    have H0 := hd h0
    obtain ⟨n, hnn⟩ : ∃ n, n = (dec (l.drop at_)).1 := ⟨_, rfl⟩
    rw [← hnn]
    have HNN := hd hnn
    obtain ⟨v, hB, _⟩ := hP
    have c2 := hB.cell 2 _ rfl
    have z2 := hB.frozen 2
    clear hB h0 hnn
    by_cases hb : n ≤ 4294967295
    · have hb1 : ¬ (n : Int) > 4294967295 := by omega
      go_wp2_with fail
      go_ret
      exact ⟨.inl ⟨⟨H0.out, by rw [← HNN.out]; exact hb⟩, by rw [← HNN.out]; rfl, HP.out⟩, HK.out⟩
    · have hb1 : (n : Int) > 4294967295 := by omega
      go_wp2_with fail
      go_ret
      exact ⟨.inr ⟨fun q => hb (by rw [HNN.out]; exact q.2), 0, _, by omega, rfl, HP.out.worse⟩, HK.out.trans (KeepO.set B 2 _ _)⟩
  · have HP := hd hP
    have H0 := hd h0
    obtain ⟨v, hB, _⟩ := hP
    have c2 := hB.cell 2 _ rfl
    have z2 := hB.frozen 2
    clear hB h0
    by_cases hb : n ≤ 4294967295
    · have hb1 : ¬ (n : Int) > 4294967295 := by omega
      go_wp2_with fail
      go_ret
      exact ⟨.inr ⟨fun q => H0.out q.1, n, _, hb, rfl, HP.out⟩, HK.out⟩
    · have hb1 : (n : Int) > 4294967295 := by omega
      go_wp2_with fail
      go_ret
      exact ⟨.inr ⟨fun q => H0.out q.1, 0, _, by omega, rfl, HP.out.worse⟩, HK.out.trans (KeepO.set B 2 _ _)⟩
/-! ### a part of a list, and its conversion, as words of our own -/
def slQ (t : TypeId) (x : Value) (lo hi mx : Option Value) : Sem Value := Instr.slice t x lo hi mx
theorem slice_hidQ (t : TypeId) (x : Value) (lo hi mx : Option Value) : Instr.slice t x lo hi mx = slQ t x lo hi mx := rfl
def cvQ (s t : TypeId) (v : Value) : Sem Value := convert s t v
theorem convert_hidQ (s t : TypeId) (v : Value) : convert s t v = cvQ s t v := rfl
theorem elem8Q : Try.prog.elem 22 = 5 := by kernel_rfl
theorem size8Q (w : World) : (sizeOf 5).run Try.prog w = .ok 1 w := by kernel_rfl
theorem sub_is {w0 : World} {a : Option Addr} {c : Nat} {l : List Nat} (hB : IsB w0 (.slice a l.length c) l) (lo k : Nat) (hk : lo + k ≤ l.length) : ∃ va vc, (∀ w, (slQ 22 (.slice a l.length c) (some (.int .i64 (lo : Int))) (some (.int .i64 ((lo + k : Nat) : Int))) none).run Try.prog w = .ok (.slice va k vc) w) ∧ IsB w0 (.slice va k vc) ((l.drop lo).take k) := by
  have hcap := hB.cap
  have hr : ∀ w, (slQ 22 (.slice a l.length c) (some (.int .i64 (lo : Int))) (some (.int .i64 ((lo + k : Nat) : Int))) none).run Try.prog w = .ok (sliced a lo (lo + k) c 1) w := by
    intro w
    have := run_slice_lh (P := Try.prog) w 22 a l.length c (by rw [elem8Q]; exact Try.underlying22) .i64 .i64 (lo : Int) ((lo + k : Nat) : Int) (by omega) (by omega) (by omega)
    rw [elem8Q, size8Q] at this
    exact this
  have e : sliced a lo (lo + k) c 1 = .slice (if c = lo then a else a.map (·.add (lo * 1))) k (c - lo) := by
    unfold sliced; rw [show lo + k - lo = k by omega]
  rw [e] at hr
  refine ⟨_, _, hr, ?_⟩
  have hB' := hB
  obtain ⟨_, _, ⟨rfl, _⟩ | ⟨b, off, c', h, _⟩⟩ := hB
  · have : lo = 0 ∧ k = 0 := by simp at hk; omega
    obtain ⟨rfl, rfl⟩ := this
    rw [List.drop_nil, List.take_nil]
    exact isK_nil _ _ _ _ _
  · injection h with h1 h2 h3
    subst h1 h3
    have hd := hB'.dropIf lo (by omega) hcap
    have ht := IsK.take hd k (by rw [List.length_drop]; omega)
    have e2 : (if c = lo then (some ⟨b, off, none⟩ : Option Addr) else (some ⟨b, off, none⟩ : Option Addr).map (·.add (lo * 1))) = if c = lo then some ⟨b, off, none⟩ else some ⟨b, off + lo, none⟩ := by
      split
      · rfl
      · simp only [Option.map_some, Nat.mul_one]
        congr 1
        unfold Addr.add
        split
        · subst_vars; rfl
        · rfl
    rw [e2]
    exact ht
/-- how many bytes rest takes -/
def rsN (l : List Nat) (at_ : Nat) (many : Int) : Nat := if many < 0 ∨ ((l.length - at_ : Nat) : Int) < many then l.length - at_ else many.toNat
attribute [local go_sem ↓] slice_hidQ convert_hidQ
set_option maxRecDepth 100000 in
set_option maxHeartbeats 1000000 in
theorem pen_rest (B : Nat) (l : List Nat) (at_ : Nat) (bad : Bool) (many : Int) (w : World) (h : PN w B l at_ bad) (hm : l.length ≤ 4194304) :
    Calls Try.prog 81 #[.pointer (some ⟨B, 0, none⟩), .int .i64 many] w fun e w' => e = .returned (.string (str ((l.drop at_).take (rsN l at_ many)))) ∧ PN w' B l (at_ + rsN l at_ many) bad ∧ KeepO B w w' := by
  have hmx : Try.prog.follows .mixedOrders = true := by kernel_rfl
  have HPN := hd h
  obtain ⟨v, hB, hI, hL, hle⟩ := h
  obtain ⟨a, c, rfl⟩ := hI.shape
  have c0 := hB.cell 0 _ rfl
  have c1 := hB.cell 1 _ rfl
  have z1 := hB.frozen 1
  have HI := hd hI
  have hkl : at_ + rsN l at_ many ≤ l.length := by unfold rsN; split <;> omega
  obtain ⟨va, vc, hsl, hsI⟩ := sub_is hI at_ (rsN l at_ many) hkl
  have hcv : ∀ m, (cvQ 22 9 (.slice va (rsN l at_ many) vc)).run Try.prog (w.drewN m) = .ok (.string (str ((l.drop at_).take (rsN l at_ many)))) (w.drewN m) := fun m => conv_is (w.drewN m) _ _ (hsI.below (below_dn w m))
  have HFIN : Hid (∀ m : Nat, PN ((w.drewN m).setCell ⟨B, 1, none⟩ (.int .i64 ((at_ + rsN l at_ many : Nat) : Int))) B l (at_ + rsN l at_ many) bad ∧ KeepO B w ((w.drewN m).setCell ⟨B, 1, none⟩ (.int .i64 ((at_ + rsN l at_ many : Nat) : Int)))) := fun m =>
    ⟨(HPN.out.below (below_dn _ m)).at _ hkl, (KeepO.of_below (below_dn _ m)).trans (KeepO.set B 1 _ _)⟩
  clear hB hI hsI
  have hls : ((l.length : Int) - (at_ : Int)) = ((l.length - at_ : Nat) : Int) := by omega
  by_cases hneg : many < 0
  · have hk : rsN l at_ many = l.length - at_ := by unfold rsN; rw [if_pos (.inl hneg)]
    rw [hk] at hsl hcv HFIN hkl ⊢
    clear hk
    obtain ⟨k, hk⟩ : ∃ k, k = l.length - at_ := ⟨_, rfl⟩
    rw [← hk] at hsl hcv HFIN hls hkl ⊢
    generalize str ((l.drop at_).take k) = S at *
    clear hk
    rw [Int.natCast_add] at hsl HFIN
    go_enter Try.func81, Try.ntmps81
    go_wp2_with fail
    go_quiet (fail)
    go_wp2_with fail
    go_quiet (fail)
    go_wp2_with fail
    go_quiet (fail)
    go_wp2_with fail
    go_ret
    exact ⟨rfl, HFIN.out _⟩
  · by_cases hbig : ((l.length - at_ : Nat) : Int) < many
    · have hk : rsN l at_ many = l.length - at_ := by unfold rsN; rw [if_pos (.inr hbig)]
      rw [hk] at hsl hcv HFIN hkl ⊢
      clear hk
      obtain ⟨k, hk⟩ : ∃ k, k = l.length - at_ := ⟨_, rfl⟩
      rw [← hk] at hsl hcv HFIN hls hkl hbig ⊢
      have hkb : (k : Int) ≤ 4194304 := by omega
      have hw : IntKind.i64.wrap (k : Int) = (k : Int) := by rw [IntKind.wrap_i64]; omega
      generalize str ((l.drop at_).take k) = S at *
      clear hk
      rw [Int.natCast_add] at hsl HFIN
      go_enter Try.func81, Try.ntmps81
      go_wp2_with fail
      go_quiet (fail)
      go_wp2_with fail
      go_quiet (fail)
      go_wp2_with fail
      go_quiet (fail)
      go_wp2_with fail
      go_ret
      exact ⟨rfl, HFIN.out _⟩
    · have hk : rsN l at_ many = many.toNat := by unfold rsN; rw [if_neg (by omega)]
      rw [hk] at hsl hcv HFIN hkl ⊢
      clear hk
      obtain ⟨k, rfl⟩ : ∃ k : Nat, many = (k : Int) := ⟨many.toNat, by omega⟩
      rw [Int.toNat_natCast] at hsl hcv HFIN hkl ⊢
      obtain ⟨len, hlen⟩ : ∃ len, len = l.length - at_ := ⟨_, rfl⟩
      rw [← hlen] at hls hbig
      have hb2 : ¬ (k : Int) > (len : Int) := by omega
      have hlb : (len : Int) ≤ 4194304 := by omega
      have hw : IntKind.i64.wrap (len : Int) = (len : Int) := by rw [IntKind.wrap_i64]; omega
      generalize str ((l.drop at_).take k) = S at *
      clear hlen hneg
      rw [Int.natCast_add] at hsl HFIN
      go_enter Try.func81, Try.ntmps81
      go_wp2_with fail
      go_quiet (fail)
      go_wp2_with fail
      go_quiet (fail)
      go_wp2_with fail
      go_ret
      exact ⟨rfl, HFIN.out _⟩
end Vt
end Go.Proofs.Ytifjjoobbegpoaa
