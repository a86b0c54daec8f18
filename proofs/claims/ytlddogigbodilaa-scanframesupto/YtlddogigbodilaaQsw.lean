/-
  ScanFrames' walk: every frame is told, left early and once more.
-/
import Derived.Test.YtlddogigbodilaaQsl
import Derived.Test.YtlddogigbodilaaQbz
import Derived.Test.YtlddogigbodilaaQca
import Derived.Test.YtlddogigbodilaaQbd
namespace Go.Proofs.Ytlddogigbodilaa
open Go.ChangeShapes Go.WideShapes Go.ChangeAt Go.RowKit Go.Shelf
namespace Vt
attribute [local go_sem] Oper.semAt_some
attribute [local go_sem] run_store_func
set_option maxRecDepth 100000 in
set_option maxHeartbeats 40000000 in
theorem framesl_walk (v : Value) (l : List Nat) (z : Int) (w : World) (hI : IsB w v l) (hz : (Lit.int .i64 z).wf = true) (hm : l.length ≤ 1048576) :
    Calls Try.prog 3 #[v, .int .i64 z] w fun e w' => e = .returned (.bool true) ∧ Below w.heap.size w w' := by
  obtain ⟨a, c, rfl⟩ := hI.shape
  have HI := hd hI
  have HZ := hd hz
  clear hI hz
  have hmx : Try.prog.follows .mixedOrders = true := by kernel_rfl
  refine (callsIn_wide (n := 8)).1 ?_
  refine callsIn_of_wp_marks Try.func3 rfl trivial (Code.wpIn_mono bodyPostF_M ?_) rfl
  simp only [Try.ntmps3, List.size_toArray, List.length_cons, List.length_nil, Nat.reduceAdd, Nat.reduceSub, Array.replicate_succ, Array.replicate_zero, List.push_toArray, List.append_toArray, List.nil_append, List.cons_append]
  refine wpIn_wide.2 ?_
  go_wp2_with fail
  obtain ⟨N, hN⟩ : ∃ N, N = w.heap.size := ⟨_, rfl⟩
  obtain ⟨W, hW⟩ : ∃ W, W = ((w.alloc (Obj.cells #[.int .i64 z] 3)).alloc (Obj.cells #[.bool false] 4)) := ⟨_, rfl⟩
  have hsW : W.heap.size = N + 2 := by rw [hW, hN]; simp
  have HBW : Hid (Below w.heap.size w W) := by rw [hW]; exact ((Below.refl _ _).alloc (Nat.le_refl _) _).alloc (by simp) _
  have BM : Hid (Boxed W N 3 (.int .i64 z)) := by rw [hW, hN]; exact (Boxed.new w _ _).alloc _
  have BR : Hid (Boxed W (N + 1) 4 (.bool false)) := by
    have := Boxed.new (w.alloc (Obj.cells #[.int .i64 z] 3)) 4 (.bool false)
    rw [World.size_alloc, ← hN] at this
    rw [hW]; exact this
  have HIW := hd (HI.out.below HBW.out)
  rw [← hW, ← hN]
  have HN := hd hN
  clear hW hN
  refine Calls.mono (lent_is _ l W HIW.out (by omega)) ?_
  rintro e w1 ⟨rfl, j1, b1⟩
  obtain ⟨G, hG⟩ : ∃ G, G = W.heap.size := ⟨_, rfl⟩
  have HGB := hd (show Buf w1 G (l.length + 8) (mk8 l) from hG ▸ j1.buf)
  rw [← hG]
  have hGN : N + 2 ≤ G := by omega
  have hGw : G < w1.heap.size := HGB.out.2.2.1
  have HI1 := hd (HIW.out.below b1)
  have BM1 := hd (boxed_below BM.out (by omega) b1)
  have BR1 := hd (boxed_below BR.out (by omega) b1)
  have HB1 := hd (HBW.out.trans (b1.mono HBW.out.size))
  clear j1 b1 hG HIW BM BR HBW hsW
  go_wp2_with fail
  refine Calls.mono (r5_all _ l w1 HI1.out (by omega)) ?_
  rintro e w2 ⟨u2, rfl, j2, b2⟩
  obtain ⟨wn, hwn⟩ : ∃ wn, wn = locs 0 l := ⟨_, rfl⟩
  rw [← hwn] at j2
  obtain ⟨xa, xc, rfl, hxc⟩ := j2.shape
  have hwl : wn.length ≤ l.length := by rw [hwn]; have := locs_len HI1.out.1 _ (Nat.le_refl _) 0; omega
  rw [List.length_map] at hxc j2 ⊢
  have HWN := hd hwn
  have J2 := hd j2
  have HG2 := hd (Buf.below HGB.out hGw b2)
  have HI2 := hd (HI1.out.below b2)
  have BM2 := hd (boxed_below BM1.out (by omega) b2)
  have BR2 := hd (boxed_below BR1.out (by omega) b2)
  have HB2 := hd (HB1.out.trans (b2.mono HB1.out.size))
  have hGw2 : G < w2.heap.size := HG2.out.2.2.1
  have hwb := j2.blk_lt
  have HWB := hd hwb
  clear j2 b2 hwn HGB HI1 BM1 BR1 HB1 hGw hwb
  go_wp2_with fail
  refine Calls.mono (frames_is _ _ _ _) ?_
  rintro e w4 ⟨rfl, hw4⟩
  obtain ⟨Q, hQ⟩ : ∃ Q, Q = w2.heap.size := ⟨_, rfl⟩
  have hs4 : w4.heap.size = Q + 2 := by rw [hw4, hQ]; simp
  have b4 : Below w2.heap.size w2 w4 := by rw [hw4]; exact ((Below.refl _ _).alloc (Nat.le_refl _) _).alloc (by simp) _
  have BW4 := hd (show Boxed w4 Q 24 (.slice xa wn.length xc) by rw [hw4, hQ]; exact (Boxed.new w2 _ _).alloc _)
  have BO4 := hd (show Boxed w4 (Q + 1) 22 (.slice (some ⟨G, 0, none⟩) l.length (l.length + 8)) by
    have := Boxed.new (w2.alloc (Obj.cells #[Value.slice xa wn.length xc] 24)) 22 (.slice (some ⟨G, 0, none⟩) l.length (l.length + 8))
    rw [World.size_alloc, ← hQ] at this
    rw [hw4]; exact this)
  simp only [World.size_alloc]
  rw [← hQ]
  have hGQ : G < Q := by omega
  have J4 := hd (J2.out.keepAll b4)
  have HG4 := hd (Buf.below HG2.out hGw2 b4)
  have HI4 := hd (HI2.out.below b4)
  have BM4 := hd (boxed_below BM2.out (by omega) b4)
  have BR4 := hd (boxed_below BR2.out (by omega) b4)
  have HB4 := hd (HB2.out.trans (b4.mono HB2.out.size))
  have HWQ : Hid (∀ g, (Value.slice xa wn.length xc).ownBlock = some g → g < Q) := fun g hg => by have := HWB.out g hg; omega
  have HS4 := hd hs4
  have hs4l : Q + 2 ≤ w4.heap.size := by omega
  clear hs4
  clear hw4 b4 hQ J2 HG2 HI2 BM2 BR2 HB2 hGw2 HWB
  go_wp2_with fail
  refine Calls.mono (frames_is _ _ _ _) ?_
  rintro e w5 ⟨rfl, hw5⟩
  simp only [World.size_alloc] at hw5 ⊢
  rw [HS4.out] at hw5 ⊢
  simp only [Nat.add_assoc, Nat.reduceAdd] at hw5 ⊢
  have hs5 : w5.heap.size = Q + 5 := by rw [hw5]; simp [HS4.out]
  have b5 : Below w4.heap.size w4 w5 := by rw [hw5]; exact (((Below.refl _ _).alloc (Nat.le_refl _) _).alloc (by simp) _).alloc (by simp; omega) _
  have BA5 := hd (show Boxed w5 (Q + 2) 27 (.func (.func 47) #[] #[.pointer (some ⟨Q + 1, 0, none⟩)]) by
    rw [hw5, ← HS4.out]; exact ((Boxed.new w4 _ _).alloc _).alloc _)
  have hlit := lit_isK .u8 256 (w4.alloc (Obj.cells #[.func (.func 47) #[] #[.pointer (some ⟨Q + 1, 0, none⟩)]] 27)) #[.int .u8 (167 : Int), .int .u8 (0 : Int), .int .u8 (0 : Int), .int .u8 (0 : Int)] 5 [167, 0, 0, 0] 4 rfl rfl (by simp) (by simp [maxLen])
  rw [World.size_alloc, HS4.out] at hlit
  have ID5 := hd (show IsB w5 (.slice (some ⟨Q + 3, 0, none⟩) 4 4) [167, 0, 0, 0] by
    rw [hw5]; exact IsK.below hlit ((Below.refl _ _).alloc (Nat.le_refl _) _))
  have BD5 := hd (show Boxed w5 (Q + 4) 22 (.slice (some ⟨Q + 3, 0, none⟩) 4 4) by
    have := Boxed.new ((w4.alloc (Obj.cells #[.func (.func 47) #[] #[.pointer (some ⟨Q + 1, 0, none⟩)]] 27)).alloc (Obj.cells #[Value.int IntKind.u8 167, Value.int IntKind.u8 0, Value.int IntKind.u8 0, Value.int IntKind.u8 0] 5)) 22 (.slice (some ⟨Q + 3, 0, none⟩) 4 4)
    rw [World.size_alloc, World.size_alloc, HS4.out] at this
    rw [hw5]; exact this)
  have J5 := hd (J4.out.keepAll b5)
  have HG5 := hd (Buf.below HG4.out (by omega) b5)
  have HI5 := hd (HI4.out.below b5)
  have BM5 := hd (boxed_below BM4.out (by omega) b5)
  have BR5 := hd (boxed_below BR4.out (by omega) b5)
  have BW5 := hd (boxed_below BW4.out (by omega) b5)
  have BO5 := hd (boxed_below BO4.out (by omega) b5)
  have HB5 := hd (HB4.out.trans (b5.mono HB4.out.size))
  have HS5 := hd hs5
  have hs5l : Q + 5 ≤ w5.heap.size := by omega
  have ca := BA5.out.cell
  have n1 : Q + 2 < w5.heap.size := by omega
  have n2 : ¬ Q + 2 = w5.heap.size := by omega
  have n3 : ¬ w5.heap.size = Q + 2 := by omega
  clear hw5 b5 hlit hs5 J4 HG4 HI4 BM4 BR4 BW4 BO4 HB4 HS4 hs4l
  have hfn : ∀ (x : Value) (w : World), (binOp .eql 27 (.func (.func 47) #[] #[x]) Value.nilFunc).run Try.prog w = .ok (.bool false) w := fun _ _ => rfl
  go_wp2_with fail
  obtain ⟨P, hP⟩ : ∃ P, P = Q + 5 := ⟨_, rfl⟩
  obtain ⟨V1, hV1⟩ : ∃ V1, V1 = w5.alloc (Obj.cells #[.int .i64 0] 3) := ⟨_, rfl⟩
  have hs6 : V1.heap.size = P + 1 := by rw [hV1, hP, ← HS5.out]; simp
  have b6 : Below w5.heap.size w5 V1 := by rw [hV1]; exact (Below.refl _ _).alloc (Nat.le_refl _) _
  have BN := hd (show Boxed V1 P 3 (.int .i64 0) by rw [hV1, hP, ← HS5.out]; exact Boxed.new w5 _ _)
  rw [← hV1, HS5.out, ← hP]
  have J6 := hd (J5.out.keepAll b6)
  have HG6 := hd (Buf.below HG5.out (by omega) b6)
  have HI6 := hd (HI5.out.below b6)
  have BM6 := hd (boxed_below BM5.out (by omega) b6)
  have BR6 := hd (boxed_below BR5.out (by omega) b6)
  have BW6 := hd (boxed_below BW5.out (by omega) b6)
  have BO6 := hd (boxed_below BO5.out (by omega) b6)
  have BA6 := hd (boxed_below BA5.out (by omega) b6)
  have BD6 := hd (boxed_below BD5.out (by omega) b6)
  have ID6 := hd (ID5.out.below b6)
  have HB6 := hd (HB5.out.trans (b6.mono HB5.out.size))
  have hPQ : Q + 5 ≤ P := by omega
  have hPQ2 : P ≤ Q + 5 := by omega
  have HP := hd hP
  clear hV1 b6 hP J5 HG5 HI5 BM5 BR5 BW5 BO5 BA5 BD5 ID5 HB5 n1 n2 n3 ca hs5l
  have hKS : ∀ k, ButP P (P + 1) k → k < V1.heap.size := fun k hk => by have := hk.1; omega
  have HKS := hd hKS
  have hOI : IsB V1 (.slice (some ⟨G, 0, none⟩) l.length (l.length + 8)) l := lent_isB HG6.out
  have HOI := hd hOI
  have hseq := frames_seq (ButP P (P + 1)) (Q + 1) (.slice (some ⟨G, 0, none⟩) l.length (l.length + 8)) l V1 (by omega) hKS BO6.out.cell hOI (fun b off c' hne e => by
    injection e with e _ _; injection e with e; injection e with e _ _; exact ⟨by omega, by omega⟩)
  have HSQ := hd hseq
  clear hseq hKS hOI
  rename_i K hK
  have HK := hd hK
  clear hK
  refine (fun (R : ∀ (D : Nat) (m : Int) (U : World), P + 1 ≤ D → Boxed U P 3 (.int .i64 m) → (m = (wn.length : Int) ∨ m = z) → KeepS (ButP P (P + 1)) V1 U → P + 1 ≤ U.heap.size → U.heap[D]? = some (.deferred (some [])) → K ⟨#[.slice a l.length c, .int .i64 z, undef, .pointer (some ⟨N, 0, none⟩), .pointer (some ⟨N + 1, 0, none⟩), .slice (some ⟨G, 0, none⟩) l.length (l.length + 8), .pointer (some ⟨Q, 0, none⟩), .pointer (some ⟨Q + 2, 0, none⟩), .func (.func 47) #[] #[.pointer (some ⟨Q + 4, 0, none⟩)], .pointer (some ⟨P, 0, none⟩), undef, undef, undef, undef, undef, undef, undef, undef, undef, undef, undef, undef, .slice a l.length c, .slice (some ⟨G, 0, none⟩) l.length (l.length + 8), .slice a l.length c, .slice xa wn.length xc, .slice (some ⟨G, 0, none⟩) l.length (l.length + 8), .func (.func 47) #[] #[.pointer (some ⟨Q + 1, 0, none⟩)], .slice (some ⟨Q + 3, 0, none⟩) 4 4, .func (.func 47) #[] #[.pointer (some ⟨Q + 4, 0, none⟩)], .func (.func 47) #[] #[.pointer (some ⟨Q + 1, 0, none⟩)], .bool false, .bool false, .func (.func 47) #[] #[.pointer (some ⟨Q + 4, 0, none⟩)], .bool false, .bool false, .func (.func 47) #[] #[.pointer (some ⟨Q + 1, 0, none⟩)], undef, undef, undef, undef, undef, undef, undef, undef, undef, undef, undef, undef, undef, undef, undef, undef, undef, undef, undef, undef, undef, undef, undef, undef, undef, undef, undef, undef, undef, undef, undef, undef, undef, undef, undef, undef, undef, undef, undef, undef, undef, undef, undef, undef, undef, undef, undef, undef, undef, undef, undef, undef, undef, undef, undef, undef, undef, undef, undef, undef, undef, undef, undef, undef, undef, undef, undef, undef, undef, undef, undef, undef, undef, undef, undef, undef, undef, undef, undef, undef, undef, undef, undef, undef, undef, undef, undef, undef, undef, undef, undef, undef, undef, undef, undef, undef, undef, undef, undef, undef, undef, undef, undef, undef, undef, undef, undef, undef, undef, undef, undef, undef, undef, undef, undef, undef, undef, undef, undef, undef, undef, undef, undef, undef, undef, undef, undef, undef, undef, undef, undef, undef, undef, undef, undef, undef, undef, undef, undef, undef, undef, undef, undef, undef, undef, undef, undef, undef, undef, undef, undef, undef, undef, undef, undef, undef, undef, undef, undef, undef, undef, undef, undef, undef, undef, undef, undef, undef, undef, undef, undef, undef, undef, undef, undef, undef, undef, undef, undef, undef, undef, undef, undef], [{ target := .collected D, args := #[] }]⟩ U) => ?mainA) ?tailA
  case tailA =>
    clear HSQ HKS
    intro D m U hD hBN hmz hB hsU hKD
    refine HK.out _ _ ?_
    clear HK
    have BMU := hd (boxed_keepS BM6.out ⟨by omega, by omega⟩ hB)
    have BWU := hd (boxed_keepS BW6.out ⟨by omega, by omega⟩ hB)
    have BRU := hd (boxed_keepS BR6.out ⟨by omega, by omega⟩ hB)
    have BAU := hd (boxed_keepS BA6.out ⟨by omega, by omega⟩ hB)
    have BOU := hd (boxed_keepS BO6.out ⟨by omega, by omega⟩ hB)
    have BDU := hd (boxed_keepS BD6.out ⟨by omega, by omega⟩ hB)
    have IDU := hd (IsK.keepS ID6.out (S := ButP P (P + 1)) (fun b off n c e => by injection e with e _ _; injection e with e; injection e with e _ _; exact ⟨by omega, by omega⟩) hB)
    have JU := hd (J6.out.keepS (fun g hg => ⟨by have := HWQ.out g hg; omega, by have := HWQ.out g hg; omega⟩) hB)
    have HGU := hd (Buf.keepS HG6.out (S := ButP P (P + 1)) ⟨by omega, by omega⟩ hB)
    have HBU := hd (HB6.out.trans (hB.below (n := w.heap.size) (fun k hk => by have := HN.out; exact ⟨by omega, by omega⟩)))
    have HBNU := hd hBN
    have HKD := hd hKD
    have cn := hBN.cell
    have cq := BWU.out.cell
    have cm := BMU.out.cell
    clear hB hBN hKD BN J6 HG6 HI6 BM6 BR6 BW6 BO6 BA6 BD6 ID6 HB6 HOI
    apply wp_seq_k
    intro K2 hK2
    have HK2 := hd hK2
    clear hK2
    refine (fun (R2 : ∀ (u66 u67 u68 u69 u70 u71 u72 u73 u74 : Value), K2 ⟨#[.slice a l.length c, .int .i64 z, undef, .pointer (some ⟨N, 0, none⟩), .pointer (some ⟨N + 1, 0, none⟩), .slice (some ⟨G, 0, none⟩) l.length (l.length + 8), .pointer (some ⟨Q, 0, none⟩), .pointer (some ⟨Q + 2, 0, none⟩), .func (.func 47) #[] #[.pointer (some ⟨Q + 4, 0, none⟩)], .pointer (some ⟨P, 0, none⟩), undef, undef, undef, undef, undef, undef, undef, undef, undef, undef, undef, undef, .slice a l.length c, .slice (some ⟨G, 0, none⟩) l.length (l.length + 8), .slice a l.length c, .slice xa wn.length xc, .slice (some ⟨G, 0, none⟩) l.length (l.length + 8), .func (.func 47) #[] #[.pointer (some ⟨Q + 1, 0, none⟩)], .slice (some ⟨Q + 3, 0, none⟩) 4 4, .func (.func 47) #[] #[.pointer (some ⟨Q + 4, 0, none⟩)], .func (.func 47) #[] #[.pointer (some ⟨Q + 1, 0, none⟩)], .bool false, .bool false, .func (.func 47) #[] #[.pointer (some ⟨Q + 4, 0, none⟩)], .bool false, .bool false, .func (.func 47) #[] #[.pointer (some ⟨Q + 1, 0, none⟩)], undef, undef, undef, undef, undef, undef, undef, undef, undef, undef, undef, undef, undef, undef, undef, undef, undef, undef, undef, undef, undef, undef, undef, undef, undef, undef, undef, undef, undef, u66, u67, u68, u69, u70, u71, u72, u73, u74, undef, undef, undef, undef, undef, undef, undef, undef, undef, undef, undef, undef, undef, undef, undef, undef, undef, undef, undef, undef, undef, undef, undef, undef, undef, undef, undef, undef, undef, undef, undef, undef, undef, undef, undef, undef, undef, undef, undef, undef, undef, undef, undef, undef, undef, undef, undef, undef, undef, undef, undef, undef, undef, undef, undef, undef, undef, undef, undef, undef, undef, undef, undef, undef, undef, undef, undef, undef, undef, undef, undef, undef, undef, undef, undef, undef, undef, undef, undef, undef, undef, undef, undef, undef, undef, undef, undef, undef, undef, undef, undef, undef, undef, undef, undef, undef, undef, undef, undef, undef, undef, undef, undef, undef, undef, undef, undef, undef, undef, undef, undef, undef, undef, undef, undef, undef, undef, undef, undef, undef, undef, undef, undef, undef, undef, undef, undef, undef, undef, undef, undef, undef, undef, undef, undef, undef, undef, undef, undef, undef, undef, undef, undef, undef, undef], [{ target := .collected D, args := #[] }]⟩ U) => ?main2) ?tail2
    case main2 =>
      have HR2 := hd R2
      clear R2 HK2
      by_cases hz2 : m = (wn.length : Int)
      · clear hmz
        subst hz2
        go_wp2_with fail
        exact HR2.out _ _ _ _ _ _ _ _ _
      · have hmz2 : m = z := hmz.resolve_left hz2
        subst hmz2
        have hz3 : (m != (wn.length : Int)) = true := by simp [hz2]
        clear hmz hz2
        go_wp2_with fail
        exact HR2.out _ _ _ _ _ _ _ _ _
    intro u66 u67 u68 u69 u70 u71 u72 u73 u74
    apply HK2.out
    clear HK2 hmz
    have ca := BAU.out.cell
    have fn := HBNU.out.frozen
    clear cq cm
    have n1 : ¬ P = Q + 2 := by omega
    have n2 : ¬ Q + 2 = P := by omega
    go_wp2_with fail
    obtain ⟨V2, hV2⟩ : ∃ V2, V2 = U.setCell ⟨P, 0, none⟩ (.int .i64 0) := ⟨_, rfl⟩
    obtain ⟨S2, hS2⟩ : ∃ S2, S2 = U.heap.size := ⟨_, rfl⟩
    have hs2 : V2.heap.size = S2 := by rw [hV2, hS2]; simp [World.setCell]
    have hPS2 : P < S2 := by omega
    have hk2 : KeepS (ButP P S2) U V2 := by rw [hV2]; exact (KeepS.refl U).setCell (p := ⟨P, 0, none⟩) (fun h => h.2 rfl) _
    have BN2 := hd (show Boxed V2 P 3 (.int .i64 0) by rw [hV2]; exact HBNU.out.set _)
    rw [← hV2]
    have BM2 := hd (boxed_keepS BMU.out ⟨by omega, by omega⟩ hk2)
    have BW2 := hd (boxed_keepS BWU.out ⟨by omega, by omega⟩ hk2)
    have BR2 := hd (boxed_keepS BRU.out ⟨by omega, by omega⟩ hk2)
    have BA2 := hd (boxed_keepS BAU.out ⟨by omega, by omega⟩ hk2)
    have BO2 := hd (boxed_keepS BOU.out ⟨by omega, by omega⟩ hk2)
    have BD2 := hd (boxed_keepS BDU.out ⟨by omega, by omega⟩ hk2)
    have ID2 := hd (IsK.keepS IDU.out (S := ButP P S2) (fun b off n c e => by injection e with e _ _; injection e with e; injection e with e _ _; exact ⟨by omega, by omega⟩) hk2)
    have J2 := hd (JU.out.keepS (fun g hg => ⟨by have := HWQ.out g hg; omega, by have := HWQ.out g hg; omega⟩) hk2)
    have HG2 := hd (Buf.keepS HGU.out (S := ButP P S2) ⟨by omega, by omega⟩ hk2)
    have HB2 := hd (HBU.out.trans (hk2.below (n := w.heap.size) (fun k hk => by have := HN.out; exact ⟨by omega, by omega⟩)))
    have hDS : D < S2 := by rw [hS2]; exact (Array.getElem?_eq_some_iff.1 HKD.out).1
    have HKD2 := hd ((hk2.block D ⟨hDS, by omega⟩).trans HKD.out)
    clear hV2 hS2 hk2 BMU BWU BRU BAU BOU BDU IDU JU HGU HBU HBNU HKD ca fn n1 n2 cn
    have hKS : ∀ k, ButP P S2 k → k < V2.heap.size := fun k hk => by have := hk.1; omega
    have HKS := hd hKS
    have hOI : IsB V2 (.slice (some ⟨G, 0, none⟩) l.length (l.length + 8)) l := lent_isB HG2.out
    have hseq := frames_seq (ButP P S2) (Q + 1) (.slice (some ⟨G, 0, none⟩) l.length (l.length + 8)) l V2 (by omega) hKS BO2.out.cell hOI (fun b off c' hne e => by
      injection e with e _ _; injection e with e; injection e with e _ _; exact ⟨by omega, by omega⟩)
    have HSQ := hd hseq
    clear hseq hKS hOI
    rename_i K hK
    have HK := hd hK
    clear hK
    refine (fun (R : ∀ (D2 : Nat) (U : World), S2 ≤ D2 → Boxed U P 3 (.int .i64 (wn.length : Int)) → KeepS (ButP P S2) V2 U → S2 ≤ U.heap.size → U.heap[D2]? = some (.deferred (some [])) → K ⟨#[.slice a l.length c, .int .i64 z, undef, .pointer (some ⟨N, 0, none⟩), .pointer (some ⟨N + 1, 0, none⟩), .slice (some ⟨G, 0, none⟩) l.length (l.length + 8), .pointer (some ⟨Q, 0, none⟩), .pointer (some ⟨Q + 2, 0, none⟩), .func (.func 47) #[] #[.pointer (some ⟨Q + 4, 0, none⟩)], .pointer (some ⟨P, 0, none⟩), undef, undef, undef, undef, undef, undef, undef, undef, undef, undef, undef, undef, .slice a l.length c, .slice (some ⟨G, 0, none⟩) l.length (l.length + 8), .slice a l.length c, .slice xa wn.length xc, .slice (some ⟨G, 0, none⟩) l.length (l.length + 8), .func (.func 47) #[] #[.pointer (some ⟨Q + 1, 0, none⟩)], .slice (some ⟨Q + 3, 0, none⟩) 4 4, .func (.func 47) #[] #[.pointer (some ⟨Q + 4, 0, none⟩)], .func (.func 47) #[] #[.pointer (some ⟨Q + 1, 0, none⟩)], .bool false, .bool false, .func (.func 47) #[] #[.pointer (some ⟨Q + 4, 0, none⟩)], .bool false, .bool false, .func (.func 47) #[] #[.pointer (some ⟨Q + 1, 0, none⟩)], undef, undef, undef, undef, undef, undef, undef, undef, undef, undef, undef, undef, undef, undef, undef, undef, undef, undef, undef, undef, undef, undef, undef, undef, undef, undef, undef, undef, undef, u66, u67, u68, u69, u70, u71, u72, u73, u74, .func (.func 47) #[] #[.pointer (some ⟨Q + 1, 0, none⟩)], undef, undef, undef, undef, undef, undef, undef, undef, undef, undef, undef, undef, undef, undef, undef, undef, undef, undef, undef, undef, undef, undef, undef, undef, undef, undef, undef, undef, undef, undef, undef, undef, undef, undef, undef, undef, undef, undef, undef, undef, undef, undef, undef, undef, undef, undef, undef, undef, undef, undef, undef, undef, undef, undef, undef, undef, undef, undef, undef, undef, undef, undef, undef, undef, undef, undef, undef, undef, undef, undef, undef, undef, undef, undef, undef, undef, undef, undef, undef, undef, undef, undef, undef, undef, undef, undef, undef, undef, undef, undef, undef, undef, undef, undef, undef, undef, undef, undef, undef, undef, undef, undef, undef, undef, undef, undef, undef, undef, undef, undef, undef, undef, undef, undef, undef, undef, undef, undef, undef, undef, undef, undef, undef, undef, undef, undef, undef, undef, undef, undef, undef, undef, undef, undef, undef, undef, undef, undef, undef, undef, undef, undef, undef, undef], [{ target := .collected D2, args := #[] }, { target := .collected D, args := #[] }]⟩ U) => ?mainB) ?tailB
    case tailB =>
      clear HSQ HKS
      intro D2 U hD2 hBN hB hsU hKD2
      refine HK.out _ _ ?_
      clear HK
      have BMU := hd (boxed_keepS BM2.out ⟨by omega, by omega⟩ hB)
      have BWU := hd (boxed_keepS BW2.out ⟨by omega, by omega⟩ hB)
      have BRU := hd (boxed_keepS BR2.out ⟨by omega, by omega⟩ hB)
      have BAU := hd (boxed_keepS BA2.out ⟨by omega, by omega⟩ hB)
      have BOU := hd (boxed_keepS BO2.out ⟨by omega, by omega⟩ hB)
      have BDU := hd (boxed_keepS BD2.out ⟨by omega, by omega⟩ hB)
      have IDU := hd (IsK.keepS ID2.out (S := ButP P S2) (fun b off n c e => by injection e with e _ _; injection e with e; injection e with e _ _; exact ⟨by omega, by omega⟩) hB)
      have JU := hd (J2.out.keepS (fun g hg => ⟨by have := HWQ.out g hg; omega, by have := HWQ.out g hg; omega⟩) hB)
      have HGU := hd (Buf.keepS HG2.out (S := ButP P S2) ⟨by omega, by omega⟩ hB)
      have HBU := hd (HB2.out.trans (hB.below (n := w.heap.size) (fun k hk => by have := HN.out; exact ⟨by omega, by omega⟩)))
      have HBNU := hd hBN
      have HKDU := hd ((hB.block D ⟨hDS, by omega⟩).trans HKD2.out)
      have HKD3 := hd hKD2
      clear hB hBN hKD2 BN2 BM2 BW2 BR2 BA2 BO2 BD2 ID2 J2 HG2 HB2 HKD2
      go_wp2_with fail
      obtain ⟨S3, hS3⟩ : ∃ S3, S3 = U.heap.size := ⟨_, rfl⟩
      have hs3 : U.heap.size = S3 := hS3.symm
      have hKS3 : ∀ k, k < S3 → k < U.heap.size := fun k hk => by omega
      have hS23 : S2 ≤ S3 := by omega
      have hseq := frames_seq (fun k => k < S3) (Q + 4) (.slice (some ⟨Q + 3, 0, none⟩) 4 4) [167, 0, 0, 0] U (by omega) hKS3 BDU.out.cell IDU.out (fun b off c' hne e => by
        injection e with e _ _; injection e with e; injection e with e _ _; show b < S3; omega)
      have HSQ := hd hseq
      have HKS := hd hKS3
      clear hseq hKS3 hS3
      rename_i K hK
      have HK := hd hK
      clear hK
      refine (fun (R : ∀ (D3 : Nat) (Z : World), S3 ≤ D3 → KeepS (fun k => k < S3) U Z → Z.heap[D3]? = some (.deferred (some [])) → K ⟨#[.slice a l.length c, .int .i64 z, undef, .pointer (some ⟨N, 0, none⟩), .pointer (some ⟨N + 1, 0, none⟩), .slice (some ⟨G, 0, none⟩) l.length (l.length + 8), .pointer (some ⟨Q, 0, none⟩), .pointer (some ⟨Q + 2, 0, none⟩), .func (.func 47) #[] #[.pointer (some ⟨Q + 4, 0, none⟩)], .pointer (some ⟨P, 0, none⟩), undef, undef, undef, undef, undef, undef, undef, undef, undef, undef, undef, undef, .slice a l.length c, .slice (some ⟨G, 0, none⟩) l.length (l.length + 8), .slice a l.length c, .slice xa wn.length xc, .slice (some ⟨G, 0, none⟩) l.length (l.length + 8), .func (.func 47) #[] #[.pointer (some ⟨Q + 1, 0, none⟩)], .slice (some ⟨Q + 3, 0, none⟩) 4 4, .func (.func 47) #[] #[.pointer (some ⟨Q + 4, 0, none⟩)], .func (.func 47) #[] #[.pointer (some ⟨Q + 1, 0, none⟩)], .bool false, .bool false, .func (.func 47) #[] #[.pointer (some ⟨Q + 4, 0, none⟩)], .bool false, .bool false, .func (.func 47) #[] #[.pointer (some ⟨Q + 1, 0, none⟩)], undef, undef, undef, undef, undef, undef, undef, undef, undef, undef, undef, undef, undef, undef, undef, undef, undef, undef, undef, undef, undef, undef, undef, undef, undef, undef, undef, undef, undef, u66, u67, u68, u69, u70, u71, u72, u73, u74, .func (.func 47) #[] #[.pointer (some ⟨Q + 1, 0, none⟩)], undef, undef, undef, undef, undef, undef, undef, undef, undef, undef, undef, undef, undef, undef, undef, undef, undef, undef, undef, undef, undef, undef, undef, undef, undef, undef, undef, undef, undef, undef, undef, undef, undef, undef, undef, undef, undef, undef, undef, undef, undef, undef, undef, undef, undef, undef, undef, undef, undef, undef, undef, undef, undef, undef, undef, undef, undef, undef, undef, .func (.func 47) #[] #[.pointer (some ⟨Q + 4, 0, none⟩)], undef, undef, undef, undef, undef, undef, undef, undef, undef, undef, undef, undef, undef, undef, undef, undef, undef, undef, undef, undef, undef, undef, undef, undef, undef, undef, undef, undef, undef, undef, undef, undef, undef, undef, undef, undef, undef, undef, undef, undef, undef, undef, undef, undef, undef, undef, undef, undef, undef, undef, undef, undef, undef, undef, undef, undef, undef, undef, undef, undef, undef, undef, undef, undef, undef, undef, undef, undef, undef, undef, undef, undef, undef, undef, undef, undef, undef, undef, undef, undef, undef, undef, undef, undef], [{ target := .collected D3, args := #[] }, { target := .collected D2, args := #[] }, { target := .collected D, args := #[] }]⟩ Z) => ?mainD) ?tailD
      case tailD =>
        clear HSQ HKS
        intro D3 Z hD3 hZ hKD4
        refine HK.out _ _ ?_
        clear HK
        have BWZ := hd (boxed_keepS BWU.out (show Q < S3 by omega) hZ)
        have BRZ := hd (boxed_keepS BRU.out (show N + 1 < S3 by omega) hZ)
        have BAZ := hd (boxed_keepS BAU.out (show Q + 2 < S3 by omega) hZ)
        have BOZ := hd (boxed_keepS BOU.out (show Q + 1 < S3 by omega) hZ)
        have HGZ := hd (Buf.keepS HGU.out (S := fun k => k < S3) (show G < S3 by omega) hZ)
        have HBZ := hd (HBU.out.trans (hZ.below (n := w.heap.size) (fun k hk => by have := HN.out; show k < S3; omega)))
        have HNZ := hd (boxed_keepS HBNU.out (show P < S3 by omega) hZ)
        have hD2S : D2 < S3 := by have := (Array.getElem?_eq_some_iff.1 HKD3.out).1; omega
        have HK1Z := hd ((hZ.block D (show D < S3 by omega)).trans HKDU.out)
        have HK2Z := hd ((hZ.block D2 (show D2 < S3 from hD2S)).trans HKD3.out)
        have HK3Z := hd hKD4
        have hZs : S3 ≤ Z.heap.size := by have := hZ.size; omega
        have HIZ := hd (HI.out.below HBZ.out)
        have cn := HNZ.out.cell
        have cq := BWZ.out.cell
        clear hZ hKD4 BMU BWU BRU BAU BOU BDU IDU JU HGU HBU HBNU HKDU HKD3
        go_wp2_with fail
        refine Calls.mono (skept_is G (l.length + 8) _ l Z HGZ.out HIZ.out) ?_
        rintro e w7 ⟨rfl, nq, rfl⟩
        clear cn cq
        go_wp2_with fail
        have hZd : KeepS (fun _ => True) Z (Z.drewN nq) := (KeepS.refl Z).drewN nq
        have HGd := hd (Buf.keepS HGZ.out (S := fun _ => True) trivial hZd)
        refine Calls.mono (sturnedK_is G (l.length + 8) l.length (mk8 l) (Z.drewN nq) HGd.out (by rw [mk8_len]; omega)) ?_
        rintro e w8 ⟨⟨vt, rfl⟩, ⟨F', hF', hG8⟩, hk8a⟩
        have hk8 : KeepS (fun k => k ≠ G) Z w8 := ((KeepS.refl Z).drewN nq).trans hk8a
        rw [mk8_len] at hF'
        obtain ⟨l2, hl2⟩ : ∃ l2, l2 = F'.take l.length := ⟨_, rfl⟩
        have hl2l : l2.length = l.length := by rw [hl2, List.length_take]; omega
        have HI8 := hd (show IsB w8 (.slice (some ⟨G, 0, none⟩) l.length (l.length + 8)) l2 by
          have h1 := (hG8.isB rfl).take l.length (by omega)
          rw [hl2]; exact h1)
        have BW8 := hd (boxed_keepS BWZ.out (show Q ≠ G by omega) hk8)
        have BR8 := hd (boxed_keepS BRZ.out (show N + 1 ≠ G by omega) hk8)
        have BA8 := hd (boxed_keepS BAZ.out (show Q + 2 ≠ G by omega) hk8)
        have BO8 := hd (boxed_keepS BOZ.out (show Q + 1 ≠ G by omega) hk8)
        have HN8 := hd (boxed_keepS HNZ.out (show P ≠ G by omega) hk8)
        have HB8 := hd (HBZ.out.trans (hk8.below (n := w.heap.size) (fun k hk => by have := HN.out; show k ≠ G; omega)))
        have HK18 := hd ((hk8.block D (show D ≠ G by omega)).trans HK1Z.out)
        have HK28 := hd ((hk8.block D2 (show D2 ≠ G by omega)).trans HK2Z.out)
        have HK38 := hd ((hk8.block D3 (show D3 ≠ G by omega)).trans HK3Z.out)
        have h8s : S3 ≤ w8.heap.size := by have := hk8.size; omega
        have hl2m : l2.length ≤ 1048576 := by omega
        have HL2 := hd hl2l
        clear hk8 hk8a hZd hF' hG8 hl2 hl2l HGd BWZ BRZ BAZ BOZ HGZ HBZ HNZ HK1Z HK2Z HK3Z HIZ
        go_wp2_with fail
        refine Calls.mono (r5_all _ l2 w8 HI8.out (by omega)) ?_
        rintro e w9 ⟨u9, rfl, j9, b9⟩
        obtain ⟨wn2, hwn2⟩ : ∃ wn2, wn2 = locs 0 l2 := ⟨_, rfl⟩
        rw [← hwn2] at j9
        obtain ⟨ya, yc, rfl, hyc⟩ := j9.shape
        have hwl2 : wn2.length ≤ l2.length := by rw [hwn2]; have := locs_len HI8.out.1 _ (Nat.le_refl _) 0; omega
        rw [List.length_map] at hyc j9 ⊢
        have HWN2 := hd hwn2
        have J9 := hd j9
        have hyg : ∀ g, (Value.slice ya wn2.length yc).ownBlock = some g → S3 ≤ g ∧ g < w9.heap.size := fun g hg => ⟨by have := j9.blk_ge g hg; omega, j9.blk_lt g hg⟩
        have HYG := hd hyg
        have HI9 := hd (HI8.out.below b9)
        have BW9 := hd (boxed_below BW8.out (by omega) b9)
        have BR9 := hd (boxed_below BR8.out (by omega) b9)
        have BA9 := hd (boxed_below BA8.out (by omega) b9)
        have BO9 := hd (boxed_below BO8.out (by omega) b9)
        have HN9 := hd (boxed_below HN8.out (by omega) b9)
        have HB9 := hd (HB8.out.trans (b9.mono HB8.out.size))
        have HK19 := hd ((b9.block D (Array.getElem?_eq_some_iff.1 HK18.out).1).trans HK18.out)
        have HK29 := hd ((b9.block D2 (Array.getElem?_eq_some_iff.1 HK28.out).1).trans HK28.out)
        have HK39 := hd ((b9.block D3 (Array.getElem?_eq_some_iff.1 HK38.out).1).trans HK38.out)
        have h9s : S3 ≤ w9.heap.size := by have := b9.size; omega
        have cq := BW9.out.cell
        have fq := BW9.out.frozen
        have cn := HN9.out.cell
        have fn := HN9.out.frozen
        have ca := BA9.out.cell
        have n1 : ¬ P = Q := by omega
        have n2 : ¬ Q = P := by omega
        have n3 : ¬ P = Q + 2 := by omega
        have n4 : ¬ Q + 2 = P := by omega
        clear hwn2 j9 b9 hyg HI8 BW8 BR8 BA8 BO8 HN8 HB8 HK18 HK28 HK38
        go_wp2_with fail
        obtain ⟨V4, hV4⟩ : ∃ V4, V4 = (w9.setCell ⟨Q, 0, none⟩ (.slice ya wn2.length yc)).setCell ⟨P, 0, none⟩ (.int .i64 0) := ⟨_, rfl⟩
        obtain ⟨S4, hS4⟩ : ∃ S4, S4 = w9.heap.size := ⟨_, rfl⟩
        have hs4 : V4.heap.size = S4 := by rw [hV4, hS4]; simp [World.setCell]
        have hPS4 : P < S4 := by omega
        have hS34 : S3 ≤ S4 := by omega
        have hk4 : KeepS (fun k => k ≠ Q ∧ k ≠ P) w9 V4 := by
          rw [hV4]; exact ((KeepS.refl w9).setCell (p := ⟨Q, 0, none⟩) (fun h => h.1 rfl) _).setCell (p := ⟨P, 0, none⟩) (fun h => h.2 rfl) _
        have BN4 := hd (show Boxed V4 P 3 (.int .i64 0) by rw [hV4]; exact (Boxed.other HN9.out (by omega) _).set _)
        have BW4 := hd (show Boxed V4 Q 24 (.slice ya wn2.length yc) by rw [hV4]; exact Boxed.other (BW9.out.set _) (by omega) _)
        rw [← hV4]
        have BR4 := hd (boxed_keepS BR9.out (show N + 1 ≠ Q ∧ N + 1 ≠ P from ⟨by omega, by omega⟩) hk4)
        have BA4 := hd (boxed_keepS BA9.out (show Q + 2 ≠ Q ∧ Q + 2 ≠ P from ⟨by omega, by omega⟩) hk4)
        have BO4 := hd (boxed_keepS BO9.out (show Q + 1 ≠ Q ∧ Q + 1 ≠ P from ⟨by omega, by omega⟩) hk4)
        have J4 := hd (J9.out.keepS (fun g hg => ⟨by have := (HYG.out g hg).1; omega, by have := (HYG.out g hg).1; omega⟩) hk4)
        have HI4 := hd (IsK.keepS HI9.out (S := fun k => k ≠ Q ∧ k ≠ P) (fun b off n c e => by injection e with e _ _; injection e with e; injection e with e _ _; exact ⟨by omega, by omega⟩) hk4)
        have HB4 := hd (HB9.out.trans (hk4.below (n := w.heap.size) (fun k hk => by have := HN.out; exact ⟨by omega, by omega⟩)))
        have hDS4 : D < S4 := by have := (Array.getElem?_eq_some_iff.1 HK19.out).1; omega
        have hDS5 : D2 < S4 := by have := (Array.getElem?_eq_some_iff.1 HK29.out).1; omega
        have hDS6 : D3 < S4 := by have := (Array.getElem?_eq_some_iff.1 HK39.out).1; omega
        have HK14 := hd ((hk4.block D ⟨by omega, by omega⟩).trans HK19.out)
        have HK24 := hd ((hk4.block D2 ⟨by omega, by omega⟩).trans HK29.out)
        have HK34 := hd ((hk4.block D3 ⟨by omega, by omega⟩).trans HK39.out)
        have hyg4 : ∀ g, (Value.slice ya wn2.length yc).ownBlock = some g → ButP P S4 g := fun g hg => ⟨by have := (HYG.out g hg).2; omega, by have := (HYG.out g hg).1; omega⟩
        have HYG4 := hd hyg4
        have HL2' := hd HL2.out
        have hll : l2.length ≤ l.length := by have := HL2.out; omega
        clear hV4 hS4 hk4 hyg4 HN9 BW9 BR9 BA9 BO9 J9 HI9 HB9 HK19 HK29 HK39 HYG cq fq cn fn ca n1 n2 n3 n4
        have hKS : ∀ k, ButP P S4 k → k < V4.heap.size := fun k hk => by have := hk.1; omega
        have HKS := hd hKS
        have hseq := frames_seq (ButP P S4) (Q + 1) (.slice (some ⟨G, 0, none⟩) l.length (l.length + 8)) l2 V4 (by omega) hKS BO4.out.cell HI4.out (fun b off c' hne e => by
          injection e with e _ _; injection e with e; injection e with e _ _; exact ⟨by omega, by omega⟩)
        have HSQ := hd hseq
        clear hseq hKS
        rename_i K hK
        have HK := hd hK
        clear hK
        refine (fun (R : ∀ (D4 : Nat) (U : World), S4 ≤ D4 → Boxed U P 3 (.int .i64 (wn2.length : Int)) → KeepS (ButP P S4) V4 U → S4 ≤ U.heap.size → U.heap[D4]? = some (.deferred (some [])) → K ⟨#[.slice a l.length c, .int .i64 z, undef, .pointer (some ⟨N, 0, none⟩), .pointer (some ⟨N + 1, 0, none⟩), .slice (some ⟨G, 0, none⟩) l.length (l.length + 8), .pointer (some ⟨Q, 0, none⟩), .pointer (some ⟨Q + 2, 0, none⟩), .func (.func 47) #[] #[.pointer (some ⟨Q + 4, 0, none⟩)], .pointer (some ⟨P, 0, none⟩), undef, undef, undef, undef, undef, undef, undef, .bool true, undef, undef, undef, undef, .slice a l.length c, .slice (some ⟨G, 0, none⟩) l.length (l.length + 8), .slice a l.length c, .slice xa wn.length xc, .slice (some ⟨G, 0, none⟩) l.length (l.length + 8), .func (.func 47) #[] #[.pointer (some ⟨Q + 1, 0, none⟩)], .slice (some ⟨Q + 3, 0, none⟩) 4 4, .func (.func 47) #[] #[.pointer (some ⟨Q + 4, 0, none⟩)], .func (.func 47) #[] #[.pointer (some ⟨Q + 1, 0, none⟩)], .bool false, .bool false, .func (.func 47) #[] #[.pointer (some ⟨Q + 4, 0, none⟩)], .bool false, .bool false, .func (.func 47) #[] #[.pointer (some ⟨Q + 1, 0, none⟩)], undef, undef, undef, undef, undef, undef, undef, undef, undef, undef, undef, undef, undef, undef, undef, undef, undef, undef, undef, undef, undef, undef, undef, undef, undef, undef, undef, undef, undef, u66, u67, u68, u69, u70, u71, u72, u73, u74, .func (.func 47) #[] #[.pointer (some ⟨Q + 1, 0, none⟩)], undef, undef, undef, undef, undef, undef, undef, undef, undef, undef, undef, undef, undef, undef, undef, undef, undef, undef, undef, undef, undef, undef, undef, undef, undef, undef, undef, undef, undef, undef, undef, undef, undef, undef, undef, undef, undef, undef, undef, undef, undef, undef, undef, undef, undef, undef, undef, undef, undef, undef, undef, undef, undef, undef, undef, undef, undef, undef, undef, .func (.func 47) #[] #[.pointer (some ⟨Q + 4, 0, none⟩)], undef, undef, .int .i64 (wn.length : Int), .slice xa wn.length xc, .int .i64 (wn.length : Int), .bool true, .bool true, .slice (some ⟨G, 0, none⟩) l.length (l.length + 8), .slice a l.length c, .bool true, .bool true, .slice (some ⟨G, 0, none⟩) l.length (l.length + 8), vt, .slice (some ⟨G, 0, none⟩) l.length (l.length + 8), .slice ya wn2.length yc, .func (.func 47) #[] #[.pointer (some ⟨Q + 1, 0, none⟩)], undef, undef, undef, undef, undef, undef, undef, undef, undef, undef, undef, undef, undef, undef, undef, undef, undef, undef, undef, undef, undef, undef, undef, undef, undef, undef, undef, undef, undef, undef, undef, undef, undef, undef, undef, undef, undef, undef, undef, undef, undef, undef, undef, undef, undef, undef, undef, undef, undef, undef, undef, undef, undef, undef, undef, undef, undef, undef, undef, undef, undef, undef, undef, undef, undef, undef, undef, undef], [{ target := .collected D4, args := #[] }, { target := .collected D3, args := #[] }, { target := .collected D2, args := #[] }, { target := .collected D, args := #[] }]⟩ U) => ?mainE) ?tailE
        case tailE =>
          clear HSQ HKS
          intro D4 U hD4 hBN hB hsU hKD4
          refine HK.out _ _ ?_
          clear HK
          have BWU := hd (boxed_keepS BW4.out ⟨by omega, by omega⟩ hB)
          have BRU := hd (boxed_keepS BR4.out ⟨by omega, by omega⟩ hB)
          have JU := hd (J4.out.keepS (fun g hg => HYG4.out g hg) hB)
          have HIU := hd (IsK.keepS HI4.out (S := ButP P S4) (fun b off n c e => by injection e with e _ _; injection e with e; injection e with e _ _; exact ⟨by omega, by omega⟩) hB)
          have HBU := hd (HB4.out.trans (hB.below (n := w.heap.size) (fun k hk => by have := HN.out; exact ⟨by omega, by omega⟩)))
          have HBNU := hd hBN
          have HK1U := hd ((hB.block D ⟨by omega, by omega⟩).trans HK14.out)
          have HK2U := hd ((hB.block D2 ⟨by omega, by omega⟩).trans HK24.out)
          have HK3U := hd ((hB.block D3 ⟨by omega, by omega⟩).trans HK34.out)
          have HK4U := hd hKD4
          have cn := hBN.cell
          have fn := hBN.frozen
          have cq := BWU.out.cell
          clear hB hBN hKD4 BN4 BW4 BR4 BA4 BO4 J4 HI4 HB4 HK14 HK24 HK34
          go_wp2_with fail
          refine Calls.mono (frames_is _ _ _ _) ?_
          rintro e V5 ⟨rfl, hV5⟩
          obtain ⟨Fb, hFb⟩ : ∃ Fb, Fb = U.heap.size := ⟨_, rfl⟩
          have hs5 : V5.heap.size = Fb + 1 := by rw [hV5, hFb]; simp [World.setCell]
          have hS4F : S4 ≤ Fb := by omega
          have hUV : KeepS (ButP P Fb) U V5 := by
            rw [hV5]; exact ((KeepS.refl U).setCell (p := ⟨P, 0, none⟩) (fun h => h.2 rfl) _).alloc (fun k hk => by have := hk.1; simp only [World.setCell, Array.size_modify] <;> omega) _
          have BN5 := hd (show Boxed V5 P 3 (.int .i64 0) by rw [hV5]; exact (HBNU.out.set _).alloc _)
          have BO5 := hd (show Boxed V5 Fb 22 (.slice (some ⟨G, 0, none⟩) l.length (l.length + 8)) by
            have := Boxed.new (U.setCell ⟨P, 0, none⟩ (.int .i64 0)) 22 (.slice (some ⟨G, 0, none⟩) l.length (l.length + 8))
            rw [show (U.setCell ⟨P, 0, none⟩ (.int .i64 0)).heap.size = Fb by rw [hFb]; simp [World.setCell]] at this
            rw [hV5]; exact this)
          simp only [World.heap_size_setCellF]
          rw [← hFb]
          have BW5 := hd (boxed_keepS BWU.out ⟨by omega, by omega⟩ hUV)
          have BR5 := hd (boxed_keepS BRU.out ⟨by omega, by omega⟩ hUV)
          have J5 := hd (JU.out.keepS (fun g hg => ⟨by have := (HYG4.out g hg).1; omega, (HYG4.out g hg).2⟩) hUV)
          have HI5 := hd (IsK.keepS HIU.out (S := ButP P Fb) (fun b off n c e => by injection e with e _ _; injection e with e; injection e with e _ _; exact ⟨by omega, by omega⟩) hUV)
          have HB5 := hd (HBU.out.trans (hUV.below (n := w.heap.size) (fun k hk => by have := HN.out; exact ⟨by omega, by omega⟩)))
          have hD4F : D4 < Fb := by have := (Array.getElem?_eq_some_iff.1 HK4U.out).1; omega
          have HK15 := hd ((hUV.block D ⟨by omega, by omega⟩).trans HK1U.out)
          have HK25 := hd ((hUV.block D2 ⟨by omega, by omega⟩).trans HK2U.out)
          have HK35 := hd ((hUV.block D3 ⟨by omega, by omega⟩).trans HK3U.out)
          have HK45 := hd ((hUV.block D4 ⟨by omega, by omega⟩).trans HK4U.out)
          clear hV5 hFb hUV BWU BRU JU HIU HBU HBNU HK1U HK2U HK3U HK4U cn fn cq
          go_wp2_with fail
          have HYG5 : Hid (∀ g, (Value.slice ya wn2.length yc).ownBlock = some g → ButP P (Fb + 1) g) := fun g hg => ⟨by have := (HYG4.out g hg).1; omega, (HYG4.out g hg).2⟩
          have hPF : P < Fb := by omega
          have hKS : ∀ k, ButP P (Fb + 1) k → k < V5.heap.size := fun k hk => by have := hk.1; omega
          have HKS := hd hKS
          have hseq := frames_seq (ButP P (Fb + 1)) Fb (.slice (some ⟨G, 0, none⟩) l.length (l.length + 8)) l2 V5 (by omega) hKS BO5.out.cell HI5.out (fun b off c' hne e => by
            injection e with e _ _; injection e with e; injection e with e _ _; exact ⟨by omega, by omega⟩)
          have HSQ := hd hseq
          clear hseq hKS
          rename_i K hK
          have HK := hd hK
          clear hK
          refine (fun (R : ∀ (D5 : Nat) (U : World), Fb + 1 ≤ D5 → Boxed U P 3 (.int .i64 (wn2.length : Int)) → KeepS (ButP P (Fb + 1)) V5 U → Fb + 1 ≤ U.heap.size → U.heap[D5]? = some (.deferred (some [])) → K ⟨#[.slice a l.length c, .int .i64 z, undef, .pointer (some ⟨N, 0, none⟩), .pointer (some ⟨N + 1, 0, none⟩), .slice (some ⟨G, 0, none⟩) l.length (l.length + 8), .pointer (some ⟨Q, 0, none⟩), .pointer (some ⟨Q + 2, 0, none⟩), .func (.func 47) #[] #[.pointer (some ⟨Q + 4, 0, none⟩)], .pointer (some ⟨P, 0, none⟩), undef, undef, undef, undef, undef, undef, undef, .bool true, undef, undef, undef, undef, .slice a l.length c, .slice (some ⟨G, 0, none⟩) l.length (l.length + 8), .slice a l.length c, .slice xa wn.length xc, .slice (some ⟨G, 0, none⟩) l.length (l.length + 8), .func (.func 47) #[] #[.pointer (some ⟨Q + 1, 0, none⟩)], .slice (some ⟨Q + 3, 0, none⟩) 4 4, .func (.func 47) #[] #[.pointer (some ⟨Q + 4, 0, none⟩)], .func (.func 47) #[] #[.pointer (some ⟨Q + 1, 0, none⟩)], .bool false, .bool false, .func (.func 47) #[] #[.pointer (some ⟨Q + 4, 0, none⟩)], .bool false, .bool false, .func (.func 47) #[] #[.pointer (some ⟨Q + 1, 0, none⟩)], undef, undef, undef, undef, undef, undef, undef, undef, undef, undef, undef, undef, undef, undef, undef, undef, undef, undef, undef, undef, undef, undef, undef, undef, undef, undef, undef, undef, undef, u66, u67, u68, u69, u70, u71, u72, u73, u74, .func (.func 47) #[] #[.pointer (some ⟨Q + 1, 0, none⟩)], undef, undef, undef, undef, undef, undef, undef, undef, undef, undef, undef, undef, undef, undef, undef, undef, undef, undef, undef, undef, undef, undef, undef, undef, undef, undef, undef, undef, undef, undef, undef, undef, undef, undef, undef, undef, undef, undef, undef, undef, undef, undef, undef, undef, undef, undef, undef, undef, undef, undef, undef, undef, undef, undef, undef, undef, undef, undef, undef, .func (.func 47) #[] #[.pointer (some ⟨Q + 4, 0, none⟩)], undef, undef, .int .i64 (wn.length : Int), .slice xa wn.length xc, .int .i64 (wn.length : Int), .bool true, .bool true, .slice (some ⟨G, 0, none⟩) l.length (l.length + 8), .slice a l.length c, .bool true, .bool true, .slice (some ⟨G, 0, none⟩) l.length (l.length + 8), vt, .slice (some ⟨G, 0, none⟩) l.length (l.length + 8), .slice ya wn2.length yc, .func (.func 47) #[] #[.pointer (some ⟨Q + 1, 0, none⟩)], undef, undef, undef, undef, undef, undef, undef, undef, undef, undef, undef, undef, undef, undef, undef, undef, undef, undef, undef, undef, undef, undef, undef, undef, undef, undef, .int .i64 (wn2.length : Int), .slice ya wn2.length yc, .int .i64 (wn2.length : Int), .bool false, .slice (some ⟨G, 0, none⟩) l.length (l.length + 8), .func (.func 47) #[] #[.pointer (some ⟨Fb, 0, none⟩)], undef, undef, undef, undef, undef, undef, undef, undef, undef, undef, undef, undef, undef, undef, undef, undef, undef, undef, undef, undef, undef, undef, undef, undef, undef, undef, undef, undef, undef, undef, undef, undef, undef, undef, undef, undef], [{ target := .collected D5, args := #[] }, { target := .collected D4, args := #[] }, { target := .collected D3, args := #[] }, { target := .collected D2, args := #[] }, { target := .collected D, args := #[] }]⟩ U) => ?mainF) ?tailF
          case tailF =>
            clear HSQ HKS
            intro D5 U hD5 hBN hB hsU hKD5
            refine HK.out _ _ ?_
            clear HK
            have BWU := hd (boxed_keepS BW5.out ⟨by omega, by omega⟩ hB)
            have BRU := hd (boxed_keepS BR5.out ⟨by omega, by omega⟩ hB)
            have HBU := hd (HB5.out.trans (hB.below (n := w.heap.size) (fun k hk => by have := HN.out; exact ⟨by omega, by omega⟩)))
            have HK1U := hd ((hB.block D ⟨by omega, by omega⟩).trans HK15.out)
            have HK2U := hd ((hB.block D2 ⟨by omega, by omega⟩).trans HK25.out)
            have HK3U := hd ((hB.block D3 ⟨by omega, by omega⟩).trans HK35.out)
            have HK4U := hd ((hB.block D4 ⟨by omega, by omega⟩).trans HK45.out)
            have HK5U := hd hKD5
            have cn := hBN.cell
            have cq := BWU.out.cell
            clear hB hBN hKD5 BN5 BO5 BW5 BR5 J5 HI5 HB5 HK15 HK25 HK35 HK45
            go_wp2_with fail
            refine Calls.mono (works_is U) ?_
            rintro e w10 ⟨rfl, b10⟩
            have BR10 := hd (boxed_below BRU.out (by omega) b10)
            have HB10 := hd (HBU.out.trans (b10.mono HBU.out.size))
            have q5 := hd ((b10.block D5 (Array.getElem?_eq_some_iff.1 HK5U.out).1).trans HK5U.out)
            have q4 := hd ((b10.block D4 (Array.getElem?_eq_some_iff.1 HK4U.out).1).trans HK4U.out)
            have q3 := hd ((b10.block D3 (Array.getElem?_eq_some_iff.1 HK3U.out).1).trans HK3U.out)
            have q2 := hd ((b10.block D2 (Array.getElem?_eq_some_iff.1 HK2U.out).1).trans HK2U.out)
            have q1 := hd ((b10.block D (Array.getElem?_eq_some_iff.1 HK1U.out).1).trans HK1U.out)
            clear b10 BRU HBU HK1U HK2U HK3U HK4U HK5U cn cq
            have cr := BR10.out.cell
            have fr := BR10.out.frozen
            go_wp2_with fail
            have HB10N : Below N w w10 := HN.out.symm ▸ HB10.out
            obtain ⟨W0, hW0⟩ : ∃ W0, W0 = w10.setCell ⟨N + 1, 0, none⟩ (.bool true) := ⟨_, rfl⟩
            rw [← hW0]
            have hc0 : W0.cell? ⟨N + 1, 0, none⟩ = some (.bool true) := by rw [hW0]; exact (BR10.out.set (.bool true)).cell
            have hb0 : Below N w W0 := by rw [hW0]; exact HB10N.setCell (p := ⟨N + 1, 0, none⟩) (by show N ≤ N + 1; omega) (.bool true)
            have p5 : W0.heap[D5]? = some (.deferred (some [])) := by rw [hW0]; exact (KeepsOthers.setCell w10 ⟨N + 1, 0, none⟩ (.bool true)).same D5 _ q5.out rfl
            have p4 : W0.heap[D4]? = some (.deferred (some [])) := by rw [hW0]; exact (KeepsOthers.setCell w10 ⟨N + 1, 0, none⟩ (.bool true)).same D4 _ q4.out rfl
            have p3 : W0.heap[D3]? = some (.deferred (some [])) := by rw [hW0]; exact (KeepsOthers.setCell w10 ⟨N + 1, 0, none⟩ (.bool true)).same D3 _ q3.out rfl
            have p2 : W0.heap[D2]? = some (.deferred (some [])) := by rw [hW0]; exact (KeepsOthers.setCell w10 ⟨N + 1, 0, none⟩ (.bool true)).same D2 _ q2.out rfl
            have p1 : W0.heap[D]? = some (.deferred (some [])) := by rw [hW0]; exact (KeepsOthers.setCell w10 ⟨N + 1, 0, none⟩ (.bool true)).same D _ q1.out rfl
            clear hW0 BR10 HB10 HB10N cr fr q1 q2 q3 q4 q5
            refine ⟨by simp, .inl ⟨_, _, rfl, run_takeDeferred p5, ?_⟩⟩
            have hc1 := cell_kept hc0 (grownBy_putObj' _ D5 (.deferred none)) (fun r e => by cases e; exact ⟨_, p5, rfl⟩)
            have hb1 := hb0.trans (belowK_b (n₀ := N) (w := w) (by have := HN.out; omega) _ D5 (.deferred (some [])) (.deferred none) (by have := HN.out; omega) p5 rfl rfl)
            replace p4 := put_otherF p4 (show D4 ≠ D5 by omega)
            replace p3 := put_otherF p3 (show D3 ≠ D5 by omega)
            replace p2 := put_otherF p2 (show D2 ≠ D5 by omega)
            replace p1 := put_otherF p1 (show D ≠ D5 by omega)
            refine ⟨by simp, .inl ⟨_, _, rfl, run_takeDeferred p4, ?_⟩⟩
            have hc2 := cell_kept hc1 (grownBy_putObj' _ D4 (.deferred none)) (fun r e => by cases e; exact ⟨_, p4, rfl⟩)
            have hb2 := hb1.trans (belowK_b (n₀ := N) (w := w) (by have := HN.out; omega) _ D4 (.deferred (some [])) (.deferred none) (by have := HN.out; omega) p4 rfl rfl)
            replace p3 := put_otherF p3 (show D3 ≠ D4 by omega)
            replace p2 := put_otherF p2 (show D2 ≠ D4 by omega)
            replace p1 := put_otherF p1 (show D ≠ D4 by omega)
            refine ⟨by simp, .inl ⟨_, _, rfl, run_takeDeferred p3, ?_⟩⟩
            have hc3 := cell_kept hc2 (grownBy_putObj' _ D3 (.deferred none)) (fun r e => by cases e; exact ⟨_, p3, rfl⟩)
            have hb3 := hb2.trans (belowK_b (n₀ := N) (w := w) (by have := HN.out; omega) _ D3 (.deferred (some [])) (.deferred none) (by have := HN.out; omega) p3 rfl rfl)
            replace p2 := put_otherF p2 (show D2 ≠ D3 by omega)
            replace p1 := put_otherF p1 (show D ≠ D3 by omega)
            refine ⟨by simp, .inl ⟨_, _, rfl, run_takeDeferred p2, ?_⟩⟩
            have hc4 := cell_kept hc3 (grownBy_putObj' _ D2 (.deferred none)) (fun r e => by cases e; exact ⟨_, p2, rfl⟩)
            have hb4 := hb3.trans (belowK_b (n₀ := N) (w := w) (by have := HN.out; omega) _ D2 (.deferred (some [])) (.deferred none) (by have := HN.out; omega) p2 rfl rfl)
            replace p1 := put_otherF p1 (show D ≠ D2 by omega)
            refine ⟨by simp, .inl ⟨_, _, rfl, run_takeDeferred p1, ?_⟩⟩
            have hc5 := cell_kept hc4 (grownBy_putObj' _ D (.deferred none)) (fun r e => by cases e; exact ⟨_, p1, rfl⟩)
            have hb5 := hb4.trans (belowK_b (n₀ := N) (w := w) (by have := HN.out; omega) _ D (.deferred (some [])) (.deferred none) (by have := HN.out; omega) p1 rfl rfl)
            refine ⟨.bool true, ?_, rfl, by rw [← HN.out]; exact hb5⟩
            simp [results, Try.f3, go_sem, hc5]
          have HR := hd R
          clear R HK
          refine (wpIn_wide (n := 8)).1 ?_
          refine wpIn_rangeFunc_X (gf := 47) (lb := #[.pointer (some ⟨Fb, 0, none⟩)]) rfl (enters_of Try.func47 (by kernel_rfl) rfl) HSQ.out HKS.out (Below.refl _ _) (fun _ => rfl)
            (SfJ P (Fb + 1) V5 (wn2.map lcF)) (fun (c : Code) (pre : List (PL l2.length)) (_ : Nat → Prop) (_ : World) => c = .ret ∧ ¬ pre.map (fun (x : PL l2.length) => lcF x.1) <+: wn2.map lcF) (hs5 ▸ sfJ_abides (by omega)) (fun _ _ _ _ _ _ h _ _ => h) ⟨BN5.out, List.nil_prefix, KeepS.refl _, by omega, fun _ h => h.elim⟩
            (fun (x : PL l2.length) a' U => ∃ Bx, Fb + 1 ≤ Bx ∧ Blk U Bx 41 (frv x.1.2.2) ∧ a' = { tmps := #[.slice a l.length c, .int .i64 z, undef, .pointer (some ⟨N, 0, none⟩), .pointer (some ⟨N + 1, 0, none⟩), .slice (some ⟨G, 0, none⟩) l.length (l.length + 8), .pointer (some ⟨Q, 0, none⟩), .pointer (some ⟨Q + 2, 0, none⟩), .func (.func 47) #[] #[.pointer (some ⟨Q + 4, 0, none⟩)], .pointer (some ⟨P, 0, none⟩), undef, undef, undef, undef, undef, undef, undef, .bool true, undef, undef, .int .i64 (x.1.1 : Int), .pointer (some ⟨Bx, 0, none⟩), .slice a l.length c, .slice (some ⟨G, 0, none⟩) l.length (l.length + 8), .slice a l.length c, .slice xa wn.length xc, .slice (some ⟨G, 0, none⟩) l.length (l.length + 8), .func (.func 47) #[] #[.pointer (some ⟨Q + 1, 0, none⟩)], .slice (some ⟨Q + 3, 0, none⟩) 4 4, .func (.func 47) #[] #[.pointer (some ⟨Q + 4, 0, none⟩)], .func (.func 47) #[] #[.pointer (some ⟨Q + 1, 0, none⟩)], .bool false, .bool false, .func (.func 47) #[] #[.pointer (some ⟨Q + 4, 0, none⟩)], .bool false, .bool false, .func (.func 47) #[] #[.pointer (some ⟨Q + 1, 0, none⟩)], undef, undef, undef, undef, undef, undef, undef, undef, undef, undef, undef, undef, undef, undef, undef, undef, undef, undef, undef, undef, undef, undef, undef, undef, undef, undef, undef, undef, undef, u66, u67, u68, u69, u70, u71, u72, u73, u74, .func (.func 47) #[] #[.pointer (some ⟨Q + 1, 0, none⟩)], undef, undef, undef, undef, undef, undef, undef, undef, undef, undef, undef, undef, undef, undef, undef, undef, undef, undef, undef, undef, undef, undef, undef, undef, undef, undef, undef, undef, undef, undef, undef, undef, undef, undef, undef, undef, undef, undef, undef, undef, undef, undef, undef, undef, undef, undef, undef, undef, undef, undef, undef, undef, undef, undef, undef, undef, undef, undef, undef, .func (.func 47) #[] #[.pointer (some ⟨Q + 4, 0, none⟩)], undef, undef, .int .i64 (wn.length : Int), .slice xa wn.length xc, .int .i64 (wn.length : Int), .bool true, .bool true, .slice (some ⟨G, 0, none⟩) l.length (l.length + 8), .slice a l.length c, .bool true, .bool true, .slice (some ⟨G, 0, none⟩) l.length (l.length + 8), vt, .slice (some ⟨G, 0, none⟩) l.length (l.length + 8), .slice ya wn2.length yc, .func (.func 47) #[] #[.pointer (some ⟨Q + 1, 0, none⟩)], undef, undef, undef, undef, undef, undef, undef, undef, undef, undef, undef, undef, undef, undef, undef, undef, undef, undef, undef, undef, undef, undef, undef, undef, undef, undef, .int .i64 (wn2.length : Int), .slice ya wn2.length yc, .int .i64 (wn2.length : Int), .bool false, .slice (some ⟨G, 0, none⟩) l.length (l.length + 8), .func (.func 47) #[] #[.pointer (some ⟨Fb, 0, none⟩)], .int .i64 (x.1.1 : Int), .agg (frv x.1.2.2).toArray, undef, undef, undef, undef, undef, undef, undef, undef, undef, undef, undef, undef, undef, undef, undef, undef, undef, undef, undef, undef, undef, undef, undef, undef, undef, undef, undef, undef, undef, undef, undef, undef, undef, undef], defers := [] })
            (fun x a' _ V V' row hs hg hr => by
              obtain ⟨Bx, h1, h2, h3⟩ := hs
              exact ⟨Bx, by omega, blkQ_kept h2 hg (fun r e => (hr r e).2), h3⟩)
            ?assign6 ?body6 ?done6 ?stop6
          case assign6 =>
            rintro lk pre ⟨⟨x1, x2, k, ⟨rl, rk, rkey, rval⟩, ⟨pl, pk, pa', pn, pkey⟩, ⟨ec, eb, ef, es⟩⟩, hx⟩ X V K hi hX hK
            simp only [enc2, frv]
            gi_wp2
            have hsV := hi.2.2.2.1
            exact hK _ _ ((KeepsOthers.alloc _ _).from _) ((KeepS.refl _).alloc (fun k hk => by rcases hk with hk | hk; have := hk.1; omega; exact (hX k hk).2) _) (sfJ_abides (by omega) pre X X _ _ hi (Turned.alloc _ _) (fun _ h => .inl h)) ⟨V.heap.size, by omega, Blk.new V 41 (frv ⟨k, ⟨rl, rk, rkey, rval⟩, ⟨pl, pk, pa', pn, pkey⟩, ⟨ec, eb, ef, es⟩⟩), rfl⟩
          case stop6 =>
            rintro D5 c2 pre X U hD5 hp ⟨rfl, hj⟩ hKD5
            exfalso
            apply hj
            obtain ⟨r, hr⟩ := hp
            refine ⟨r.map lcF, ?_⟩
            rw [HWN2.out, ← hr, List.map_append, List.map_map]
            rfl
          case done6 =>
            rintro D5 ys X U hD5 hys ⟨bn, hpre, hB, hsU, hXM⟩ hKD5
            gi_wp2
            have hyl : ys.length = wn2.length := by rw [HWN2.out, ← hys, List.length_map]
            rw [hyl] at bn
            exact HR.out D5 U (by omega) bn hB hsU hKD5
          case body6 =>
            have BWV := BW5
            have BRV := BR5
            have JV := J5
            have HWV := HYG5
            rintro lk pre ⟨⟨x1, x2, f⟩, hx⟩ X a' U hlk hlp hX ⟨bn, hpre, hB, hsU, hXM⟩ ⟨Bx, hBx, hblk, rfl⟩ hlen
            obtain ⟨k, ⟨rl, rk, rkey, rval⟩, ⟨pl, pk, pp, pn, pkey⟩, ⟨ec, eb, ef, es⟩⟩ := f
            have hblk : Blk U Bx 41 [.int .i64 k, .int .u64 (rl : Int), .int .i64 rk, .string rkey, .string rval, .int .u64 (pl : Int), .int .i64 pk, .int .i64 pp, .int .i64 pn, .string pkey, .int .i64 ec, .int .i64 eb, .int .i64 ef, .int .u32 (es : Int)] := hblk
            have hBxU : Bx < U.heap.size := (Array.getElem?_eq_some_iff.1 hblk).1
            have k0 := hblk.cell 0 _ rfl
            have k1 := hblk.cell 1 _ rfl
            have k2 := hblk.cell 2 _ rfl
            have k3 := hblk.cell 3 _ rfl
            have k4 := hblk.cell 4 _ rfl
            have k5 := hblk.cell 5 _ rfl
            have k6 := hblk.cell 6 _ rfl
            have k7 := hblk.cell 7 _ rfl
            have k8 := hblk.cell 8 _ rfl
            have k9 := hblk.cell 9 _ rfl
            have k10 := hblk.cell 10 _ rfl
            have k11 := hblk.cell 11 _ rfl
            have k12 := hblk.cell 12 _ rfl
            have k13 := hblk.cell 13 _ rfl
            have cn := bn.cell
            have cq := (boxed_keepS BWV.out ⟨by omega, by omega⟩ hB).cell
            have hPU : P < U.heap.size := by omega
            have hQU : Q < U.heap.size := by omega
            have hN1U : N + 1 < U.heap.size := by omega
            have HMP : Hid ((pre ++ [(⟨(x1, x2, ⟨k, ⟨rl, rk, rkey, rval⟩, ⟨pl, pk, pp, pn, pkey⟩, ⟨ec, eb, ef, es⟩⟩), hx⟩ : PL l2.length)]).map (fun x => lcF x.1) = pre.map (fun x => lcF x.1) ++ [(x1, ⟨k, ⟨rl, rk, rkey, rval⟩, ⟨pl, pk, pp, pn, pkey⟩, ⟨ec, eb, ef, es⟩⟩)]) := by
              show _ = _
              rw [List.map_append, List.map_singleton]
              rfl
            have HPL : Hid ((pre.map (fun x => lcF x.1)).length = pre.length) := List.length_map _
            have HPRE := hd hpre
            have HB := hd hB
            have HBNU := hd bn
            have HBRU := hd (boxed_keepS BRV.out ⟨by omega, by omega⟩ hB)
            have HJU := hd (JV.out.keepS (fun g hg => HWV.out g hg) hB)
            have HXM := hd hXM
            have HX := hd hX
            clear hpre hB bn hXM hX
            by_cases hlt : pre.length < wn2.length
            · have hge : ¬ ((pre.length : Int) ≥ (wn2.length : Int)) := by omega
              obtain ⟨⟨p0, n0, kd0, ⟨rl0, rk0, rkey0, rval0⟩, ⟨pl0, pk0, pp0, pn0, pkey0⟩, ⟨ec0, eb0, ef0, es0⟩⟩, hlc⟩ : ∃ x, wn2[pre.length]? = some x := ⟨_, List.getElem?_eq_getElem hlt⟩
              have hxm : (wn2.map fov)[pre.length]? = some [.int .i64 (p0 : Int), .int .i64 (n0 : Int), .int .i64 kd0, .int .u64 (rl0 : Int), .int .i64 rk0, .string rkey0, .string rval0, .int .u64 (pl0 : Int), .int .i64 pk0, .int .i64 pp0, .int .i64 pn0, .string pkey0, .int .i64 ec0, .int .i64 eb0, .int .i64 ef0, .int .u32 (es0 : Int)] := by rw [List.getElem?_map, hlc]; rfl
              obtain ⟨gw, cv', hv1, hg1, hm1⟩ := HJU.out.nn (by intro e; rw [e] at hxm; simp at hxm)
              injection hv1 with e1 e2 e3
              subst e1
              have hgU : gw < U.heap.size := HJU.out.blk_lt gw rfl
              have r0 := HJU.out.at pre.length _ 0 _ hxm rfl
              rw [Nat.add_zero] at r0
              have r2 := HJU.out.at pre.length _ 2 _ hxm rfl
              have r3 := HJU.out.at pre.length _ 3 _ hxm rfl
              have r4 := HJU.out.at pre.length _ 4 _ hxm rfl
              have r5 := HJU.out.at pre.length _ 5 _ hxm rfl
              have r6 := HJU.out.at pre.length _ 6 _ hxm rfl
              have r7 := HJU.out.at pre.length _ 7 _ hxm rfl
              have r8 := HJU.out.at pre.length _ 8 _ hxm rfl
              have r9 := HJU.out.at pre.length _ 9 _ hxm rfl
              have r10 := HJU.out.at pre.length _ 10 _ hxm rfl
              have r11 := HJU.out.at pre.length _ 11 _ hxm rfl
              have r12 := HJU.out.at pre.length _ 12 _ hxm rfl
              have r13 := HJU.out.at pre.length _ 13 _ hxm rfl
              have r14 := HJU.out.at pre.length _ 14 _ hxm rfl
              have r15 := HJU.out.at pre.length _ 15 _ hxm rfl
              have HLC : Hid ((wn2.map lcF)[pre.length]? = some (p0, ⟨kd0, ⟨rl0, rk0, rkey0, rval0⟩, ⟨pl0, pk0, pp0, pn0, pkey0⟩, ⟨ec0, eb0, ef0, es0⟩⟩)) := by
                show _ = _
                rw [List.getElem?_map, hlc]; rfl
              obtain ⟨bb, hbb, hbf⟩ := neq_any ⟨k, ⟨rl, rk, rkey, rval⟩, ⟨pl, pk, pp, pn, pkey⟩, ⟨ec, eb, ef, es⟩⟩ ⟨kd0, ⟨rl0, rk0, rkey0, rval0⟩, ⟨pl0, pk0, pp0, pn0, pkey0⟩, ⟨ec0, eb0, ef0, es0⟩⟩
              have heq : ∀ w, (binOp .neq 41 (.agg #[.int .i64 k, .int .u64 (rl : Int), .int .i64 rk, .string rkey, .string rval, .int .u64 (pl : Int), .int .i64 pk, .int .i64 pp, .int .i64 pn, .string pkey, .int .i64 ec, .int .i64 eb, .int .i64 ef, .int .u32 (es : Int)]) (.agg #[.int .i64 kd0, .int .u64 (rl0 : Int), .int .i64 rk0, .string rkey0, .string rval0, .int .u64 (pl0 : Int), .int .i64 pk0, .int .i64 pp0, .int .i64 pn0, .string pkey0, .int .i64 ec0, .int .i64 eb0, .int .i64 ef0, .int .u32 (es0 : Int)])).run Try.prog w = .ok (.bool bb) w := hbb
              clear hbb hlc hxm hg1 hm1 e2 e3
              by_cases hp : x1 = p0
              · subst hp
                cases bb with
                | true =>
                  have HNO : Hid (¬ pre.map (fun x => lcF x.1) ++ [(x1, ⟨k, ⟨rl, rk, rkey, rval⟩, ⟨pl, pk, pp, pn, pkey⟩, ⟨ec, eb, ef, es⟩⟩)] <+: wn2.map lcF) := hd (pre_snoc_no (by
                    rw [HPL.out]
                    intro e
                    have e2 := HLC.out.symm.trans e
                    injection e2 with e2
                    injection e2 with _ e2
                    have := hbf.2 e2.symm
                    cases this))
                  clear hbf
                  gi_wp2
                  refine region_skipIn (fun i9 v9 _ => v9 = [.int .i64 (pre.length : Int), .slice (some ⟨gw, 0, none⟩) wn2.length yc, .int .i64 (wn2.length : Int), .bool false, .bool false, .int .i64 (x1 : Int), .slice (some ⟨gw, 0, none⟩) wn2.length yc, .int .i64 (pre.length : Int), .pointer (some ⟨gw, pre.length * 16, none⟩), .pointer (some ⟨gw, pre.length * 16, none⟩), .int .i64 (x1 : Int), .bool false, .bool false, .bool false, .agg #[.int .i64 k, .int .u64 (rl : Int), .int .i64 rk, .string rkey, .string rval, .int .u64 (pl : Int), .int .i64 pk, .int .i64 pp, .int .i64 pn, .string pkey, .int .i64 ec, .int .i64 eb, .int .i64 ef, .int .u32 (es : Int)], .slice (some ⟨gw, 0, none⟩) wn2.length yc, .int .i64 (pre.length : Int), .pointer (some ⟨gw, pre.length * 16, none⟩), .pointer (some ⟨gw, pre.length * 16 + 2, none⟩), .agg #[.int .i64 kd0, .int .u64 (rl0 : Int), .int .i64 rk0, .string rkey0, .string rval0, .int .u64 (pl0 : Int), .int .i64 pk0, .int .i64 pp0, .int .i64 pn0, .string pkey0, .int .i64 ec0, .int .i64 eb0, .int .i64 ef0, .int .u32 (es0 : Int)], .bool true, .bool true].getD i9 undef) (fun w => Below U.heap.size U w) (fun _ => trivial) hmx (by kernel_rfl) (by kernel_rfl) ((Below.refl _ _).drew) (fun _ _ _ _ _ _ _ h => h) ?_ ?_
                  · as_aux_lemma =>
                      intro i9 o9 ho a9 w9 hW hdf hsz hout haf
                      have ee6 := gF 6 (hout 6 (notDst_spec (by kernel_rfl)))
                      have ee9 := gF 9 (hout 9 (notDst_spec (by kernel_rfl)))
                      have ee20 := gF 20 (hout 20 (notDst_spec (by kernel_rfl)))
                      have ee21 := gF 21 (hout 21 (notDst_spec (by kernel_rfl)))
                      simp only [Array.getD_eq_getD_getElem?, List.getElem?_toArray, List.getElem?_cons_succ, List.getElem?_cons_zero, Option.getD_some] at ee6 ee9 ee20 ee21
                      have hsz2 : a9.tmps.size = 220 := hsz
                      clear hout hsz hdf
                      have zzcn := (hW.cell (p := ⟨P, 0, none⟩) hPU).trans cn
                      have zzcq := (hW.cell (p := ⟨Q, 0, none⟩) hQU).trans cq
                      have zzr0 := (hW.cell (p := ⟨gw, pre.length * 16, none⟩) hgU).trans r0
                      have zzk0 := (hW.cell (p := ⟨Bx, 0, none⟩) hBxU).trans k0
                      have zzk1 := (hW.cell (p := ⟨Bx, 1, none⟩) hBxU).trans k1
                      have zzk2 := (hW.cell (p := ⟨Bx, 2, none⟩) hBxU).trans k2
                      have zzk3 := (hW.cell (p := ⟨Bx, 3, none⟩) hBxU).trans k3
                      have zzk4 := (hW.cell (p := ⟨Bx, 4, none⟩) hBxU).trans k4
                      have zzk5 := (hW.cell (p := ⟨Bx, 5, none⟩) hBxU).trans k5
                      have zzk6 := (hW.cell (p := ⟨Bx, 6, none⟩) hBxU).trans k6
                      have zzk7 := (hW.cell (p := ⟨Bx, 7, none⟩) hBxU).trans k7
                      have zzk8 := (hW.cell (p := ⟨Bx, 8, none⟩) hBxU).trans k8
                      have zzk9 := (hW.cell (p := ⟨Bx, 9, none⟩) hBxU).trans k9
                      have zzk10 := (hW.cell (p := ⟨Bx, 10, none⟩) hBxU).trans k10
                      have zzk11 := (hW.cell (p := ⟨Bx, 11, none⟩) hBxU).trans k11
                      have zzk12 := (hW.cell (p := ⟨Bx, 12, none⟩) hBxU).trans k12
                      have zzk13 := (hW.cell (p := ⟨Bx, 13, none⟩) hBxU).trans k13
                      have zzr2 := (hW.cell (p := ⟨gw, pre.length * 16 + 2, none⟩) hgU).trans r2
                      have zzr3 := (hW.cell (p := ⟨gw, pre.length * 16 + 3, none⟩) hgU).trans r3
                      have zzr4 := (hW.cell (p := ⟨gw, pre.length * 16 + 4, none⟩) hgU).trans r4
                      have zzr5 := (hW.cell (p := ⟨gw, pre.length * 16 + 5, none⟩) hgU).trans r5
                      have zzr6 := (hW.cell (p := ⟨gw, pre.length * 16 + 6, none⟩) hgU).trans r6
                      have zzr7 := (hW.cell (p := ⟨gw, pre.length * 16 + 7, none⟩) hgU).trans r7
                      have zzr8 := (hW.cell (p := ⟨gw, pre.length * 16 + 8, none⟩) hgU).trans r8
                      have zzr9 := (hW.cell (p := ⟨gw, pre.length * 16 + 9, none⟩) hgU).trans r9
                      have zzr10 := (hW.cell (p := ⟨gw, pre.length * 16 + 10, none⟩) hgU).trans r10
                      have zzr11 := (hW.cell (p := ⟨gw, pre.length * 16 + 11, none⟩) hgU).trans r11
                      have zzr12 := (hW.cell (p := ⟨gw, pre.length * 16 + 12, none⟩) hgU).trans r12
                      have zzr13 := (hW.cell (p := ⟨gw, pre.length * 16 + 13, none⟩) hgU).trans r13
                      have zzr14 := (hW.cell (p := ⟨gw, pre.length * 16 + 14, none⟩) hgU).trans r14
                      have zzr15 := (hW.cell (p := ⟨gw, pre.length * 16 + 15, none⟩) hgU).trans r15
                      refine (match i9, ho, haf with | 0, ho, haf => ?_ | 1, ho, haf => ?_ | 2, ho, haf => ?_ | 3, ho, haf => ?_ | 4, ho, haf => ?_ | 5, ho, haf => ?_ | 6, ho, haf => ?_ | 7, ho, haf => ?_ | 8, ho, haf => ?_ | 9, ho, haf => ?_ | 10, ho, haf => ?_ | 11, ho, haf => ?_ | 12, ho, haf => ?_ | 13, ho, haf => ?_ | 14, ho, haf => ?_ | 15, ho, haf => ?_ | 16, ho, haf => ?_ | 17, ho, haf => ?_ | 18, ho, haf => ?_ | 19, ho, haf => ?_ | 20, ho, haf => ?_ | 21, ho, haf => ?_ | n + 22, ho, haf => absurd ho (by simp))
                      all_goals obtain rfl := Option.some.inj ho
                      refine skip_goodIn _ (wanted_none rfl) ?_; rotate_left
                      refine skip_goodIn _ (wanted_none rfl) ?_; rotate_left
                      have f1 := gF 187 (haf ⟨1, .data⟩ (by simp) rfl); refine skip_goodIn _ (wanted_none rfl) ?_; rotate_left
                      have f0 := gF 186 (haf ⟨0, .data⟩ (by simp) rfl); have f2 := gF 188 (haf ⟨2, .data⟩ (by simp) rfl); refine skip_goodIn _ (wanted_none rfl) ?_; rotate_left
                      have f3 := gF 189 (haf ⟨3, .data⟩ (by simp) rfl); refine skip_goodIn _ (wanted_none rfl) ?_; rotate_left
                      refine skip_goodIn _ (wanted_some rfl (yielded_of (d := 190) rfl (by omega) (haf ⟨4, .guard⟩ (by simp) rfl))) ?_; rotate_left
                      refine skip_goodIn _ (wanted_some rfl (yielded_of (d := 190) rfl (by omega) (haf ⟨4, .guard⟩ (by simp) rfl))) ?_; rotate_left
                      refine skip_goodIn _ (wanted_some rfl (yielded_of (d := 190) rfl (by omega) (haf ⟨4, .guard⟩ (by simp) rfl))) ?_; rotate_left
                      have f6 := gF 192 (haf ⟨6, .data⟩ (by simp) rfl); have f7 := gF 193 (haf ⟨7, .data⟩ (by simp) rfl); refine skip_goodIn _ (wanted_some rfl (yielded_of (d := 190) rfl (by omega) (haf ⟨4, .guard⟩ (by simp) rfl))) ?_; rotate_left
                      have f8 := gF 194 (haf ⟨8, .data⟩ (by simp) rfl); refine skip_goodIn _ (wanted_some rfl (yielded_of (d := 190) rfl (by omega) (haf ⟨4, .guard⟩ (by simp) rfl))) ?_; rotate_left
                      have f9 := gF 195 (haf ⟨9, .data⟩ (by simp) rfl); refine skip_goodIn _ (wanted_some rfl (yielded_of (d := 190) rfl (by omega) (haf ⟨4, .guard⟩ (by simp) rfl))) ?_; rotate_left
                      have f5 := gF 191 (haf ⟨5, .data⟩ (by simp) rfl); have f10 := gF 196 (haf ⟨10, .data⟩ (by simp) rfl); refine skip_goodIn _ (wanted_some rfl (yielded_of (d := 190) rfl (by omega) (haf ⟨4, .guard⟩ (by simp) rfl))) ?_; rotate_left
                      have f4 := gF 190 (haf ⟨4, .data⟩ (by simp) rfl); have f11 := gF 197 (haf ⟨11, .data⟩ (by simp) rfl); refine skip_goodIn _ (wanted_none rfl) ?_; rotate_left
                      have f12 := gF 198 (haf ⟨12, .data⟩ (by simp) rfl); refine skip_goodIn _ (wanted_none rfl) ?_; rotate_left
                      refine skip_goodIn _ (wanted_some rfl (yielded_of (d := 199) rfl (by omega) (haf ⟨13, .guard⟩ (by simp) rfl))) ?_; rotate_left
                      refine skip_goodIn _ (wanted_some rfl (yielded_of (d := 199) rfl (by omega) (haf ⟨13, .guard⟩ (by simp) rfl))) ?_; rotate_left
                      refine skip_goodIn _ (wanted_some rfl (yielded_of (d := 199) rfl (by omega) (haf ⟨13, .guard⟩ (by simp) rfl))) ?_; rotate_left
                      have f15 := gF 201 (haf ⟨15, .data⟩ (by simp) rfl); have f16 := gF 202 (haf ⟨16, .data⟩ (by simp) rfl); refine skip_goodIn _ (wanted_some rfl (yielded_of (d := 199) rfl (by omega) (haf ⟨13, .guard⟩ (by simp) rfl))) ?_; rotate_left
                      have f17 := gF 203 (haf ⟨17, .data⟩ (by simp) rfl); refine skip_goodIn _ (wanted_some rfl (yielded_of (d := 199) rfl (by omega) (haf ⟨13, .guard⟩ (by simp) rfl))) ?_; rotate_left
                      have f18 := gF 204 (haf ⟨18, .data⟩ (by simp) rfl); refine skip_goodIn _ (wanted_some rfl (yielded_of (d := 199) rfl (by omega) (haf ⟨13, .guard⟩ (by simp) rfl))) ?_; rotate_left
                      have f14 := gF 200 (haf ⟨14, .data⟩ (by simp) rfl); have f19 := gF 205 (haf ⟨19, .data⟩ (by simp) rfl); refine skip_goodIn _ (wanted_some rfl (yielded_of (d := 199) rfl (by omega) (haf ⟨13, .guard⟩ (by simp) rfl))) ?_; rotate_left
                      have f13 := gF 199 (haf ⟨13, .data⟩ (by simp) rfl); have f20 := gF 206 (haf ⟨20, .data⟩ (by simp) rfl); refine skip_goodIn _ (wanted_none rfl) ?_; rotate_left
                      all_goals (clear haf ho hsz2; intro K hK; try simp only [List.getD_cons_succ, List.getD_cons_zero] at *; simp only [List.getElem_toArray, List.getElem_cons_succ, List.getElem_cons_zero] at hK ⊢; go_simp; first | exact hK _ _ ⟨Below.refl _ _, hW, rfl⟩ | exact hK _ _ ⟨Below.refl _ _, hW, (by simp only [Value.bool.injEq, decide_eq_false_iff_not]; omega)⟩)
                  · as_aux_lemma =>
                      intro aa w9 hW hdf hsz hout hall
                      have hat := tmps_seq (lo := 186) (by kernel_rfl) (by kernel_rfl) hsz (by kernel_rfl) hout hall
                      obtain ⟨tt, dd⟩ := aa
                      simp only [List.take_succ_cons, List.take_zero, List.drop_succ_cons, List.drop_zero, List.cons_append, List.nil_append, List.length_cons, List.length_nil, Nat.reduceAdd] at hat hdf
                      subst hat hdf
                      clear hsz hout hall
                      have brw := boxed_below HBRU.out hN1U hW
                      have cr := brw.cell
                      have fr := brw.frozen
                      gi_wp2
                      refine ⟨((ko_belowF hW).trans (KeepsOthers.setCell _ _ _)).from _, ?_⟩
                      exact ⟨rfl, (fun h => HNO.out (by rw [← HMP.out]; exact h))⟩
                | false =>
                  have HYES : Hid (pre.map (fun x => lcF x.1) ++ [(x1, ⟨k, ⟨rl, rk, rkey, rval⟩, ⟨pl, pk, pp, pn, pkey⟩, ⟨ec, eb, ef, es⟩⟩)] <+: wn2.map lcF) := hd (pre_snoc_yes HPRE.out (by
                    rw [HPL.out, HLC.out, hbf.1 rfl]))
                  have HW1 : Hid ((pre.length : Int) + 1 = (((pre ++ [(⟨(x1, x2, ⟨k, ⟨rl, rk, rkey, rval⟩, ⟨pl, pk, pp, pn, pkey⟩, ⟨ec, eb, ef, es⟩⟩), hx⟩ : PL l2.length)]).length : Nat) : Int)) := hd (by
                    rw [List.length_append, List.length_singleton]; omega)
                  clear hbf
                  gi_wp2
                  refine region_skipIn (fun i9 v9 _ => v9 = [.int .i64 (pre.length : Int), .slice (some ⟨gw, 0, none⟩) wn2.length yc, .int .i64 (wn2.length : Int), .bool false, .bool false, .int .i64 (x1 : Int), .slice (some ⟨gw, 0, none⟩) wn2.length yc, .int .i64 (pre.length : Int), .pointer (some ⟨gw, pre.length * 16, none⟩), .pointer (some ⟨gw, pre.length * 16, none⟩), .int .i64 (x1 : Int), .bool false, .bool false, .bool false, .agg #[.int .i64 k, .int .u64 (rl : Int), .int .i64 rk, .string rkey, .string rval, .int .u64 (pl : Int), .int .i64 pk, .int .i64 pp, .int .i64 pn, .string pkey, .int .i64 ec, .int .i64 eb, .int .i64 ef, .int .u32 (es : Int)], .slice (some ⟨gw, 0, none⟩) wn2.length yc, .int .i64 (pre.length : Int), .pointer (some ⟨gw, pre.length * 16, none⟩), .pointer (some ⟨gw, pre.length * 16 + 2, none⟩), .agg #[.int .i64 kd0, .int .u64 (rl0 : Int), .int .i64 rk0, .string rkey0, .string rval0, .int .u64 (pl0 : Int), .int .i64 pk0, .int .i64 pp0, .int .i64 pn0, .string pkey0, .int .i64 ec0, .int .i64 eb0, .int .i64 ef0, .int .u32 (es0 : Int)], .bool false, .bool false].getD i9 undef) (fun w => Below U.heap.size U w) (fun _ => trivial) hmx (by kernel_rfl) (by kernel_rfl) ((Below.refl _ _).drew) (fun _ _ _ _ _ _ _ h => h) ?_ ?_
                  · as_aux_lemma =>
                      intro i9 o9 ho a9 w9 hW hdf hsz hout haf
                      have ee6 := gF 6 (hout 6 (notDst_spec (by kernel_rfl)))
                      have ee9 := gF 9 (hout 9 (notDst_spec (by kernel_rfl)))
                      have ee20 := gF 20 (hout 20 (notDst_spec (by kernel_rfl)))
                      have ee21 := gF 21 (hout 21 (notDst_spec (by kernel_rfl)))
                      simp only [Array.getD_eq_getD_getElem?, List.getElem?_toArray, List.getElem?_cons_succ, List.getElem?_cons_zero, Option.getD_some] at ee6 ee9 ee20 ee21
                      have hsz2 : a9.tmps.size = 220 := hsz
                      clear hout hsz hdf
                      have zzcn := (hW.cell (p := ⟨P, 0, none⟩) hPU).trans cn
                      have zzcq := (hW.cell (p := ⟨Q, 0, none⟩) hQU).trans cq
                      have zzr0 := (hW.cell (p := ⟨gw, pre.length * 16, none⟩) hgU).trans r0
                      have zzk0 := (hW.cell (p := ⟨Bx, 0, none⟩) hBxU).trans k0
                      have zzk1 := (hW.cell (p := ⟨Bx, 1, none⟩) hBxU).trans k1
                      have zzk2 := (hW.cell (p := ⟨Bx, 2, none⟩) hBxU).trans k2
                      have zzk3 := (hW.cell (p := ⟨Bx, 3, none⟩) hBxU).trans k3
                      have zzk4 := (hW.cell (p := ⟨Bx, 4, none⟩) hBxU).trans k4
                      have zzk5 := (hW.cell (p := ⟨Bx, 5, none⟩) hBxU).trans k5
                      have zzk6 := (hW.cell (p := ⟨Bx, 6, none⟩) hBxU).trans k6
                      have zzk7 := (hW.cell (p := ⟨Bx, 7, none⟩) hBxU).trans k7
                      have zzk8 := (hW.cell (p := ⟨Bx, 8, none⟩) hBxU).trans k8
                      have zzk9 := (hW.cell (p := ⟨Bx, 9, none⟩) hBxU).trans k9
                      have zzk10 := (hW.cell (p := ⟨Bx, 10, none⟩) hBxU).trans k10
                      have zzk11 := (hW.cell (p := ⟨Bx, 11, none⟩) hBxU).trans k11
                      have zzk12 := (hW.cell (p := ⟨Bx, 12, none⟩) hBxU).trans k12
                      have zzk13 := (hW.cell (p := ⟨Bx, 13, none⟩) hBxU).trans k13
                      have zzr2 := (hW.cell (p := ⟨gw, pre.length * 16 + 2, none⟩) hgU).trans r2
                      have zzr3 := (hW.cell (p := ⟨gw, pre.length * 16 + 3, none⟩) hgU).trans r3
                      have zzr4 := (hW.cell (p := ⟨gw, pre.length * 16 + 4, none⟩) hgU).trans r4
                      have zzr5 := (hW.cell (p := ⟨gw, pre.length * 16 + 5, none⟩) hgU).trans r5
                      have zzr6 := (hW.cell (p := ⟨gw, pre.length * 16 + 6, none⟩) hgU).trans r6
                      have zzr7 := (hW.cell (p := ⟨gw, pre.length * 16 + 7, none⟩) hgU).trans r7
                      have zzr8 := (hW.cell (p := ⟨gw, pre.length * 16 + 8, none⟩) hgU).trans r8
                      have zzr9 := (hW.cell (p := ⟨gw, pre.length * 16 + 9, none⟩) hgU).trans r9
                      have zzr10 := (hW.cell (p := ⟨gw, pre.length * 16 + 10, none⟩) hgU).trans r10
                      have zzr11 := (hW.cell (p := ⟨gw, pre.length * 16 + 11, none⟩) hgU).trans r11
                      have zzr12 := (hW.cell (p := ⟨gw, pre.length * 16 + 12, none⟩) hgU).trans r12
                      have zzr13 := (hW.cell (p := ⟨gw, pre.length * 16 + 13, none⟩) hgU).trans r13
                      have zzr14 := (hW.cell (p := ⟨gw, pre.length * 16 + 14, none⟩) hgU).trans r14
                      have zzr15 := (hW.cell (p := ⟨gw, pre.length * 16 + 15, none⟩) hgU).trans r15
                      refine (match i9, ho, haf with | 0, ho, haf => ?_ | 1, ho, haf => ?_ | 2, ho, haf => ?_ | 3, ho, haf => ?_ | 4, ho, haf => ?_ | 5, ho, haf => ?_ | 6, ho, haf => ?_ | 7, ho, haf => ?_ | 8, ho, haf => ?_ | 9, ho, haf => ?_ | 10, ho, haf => ?_ | 11, ho, haf => ?_ | 12, ho, haf => ?_ | 13, ho, haf => ?_ | 14, ho, haf => ?_ | 15, ho, haf => ?_ | 16, ho, haf => ?_ | 17, ho, haf => ?_ | 18, ho, haf => ?_ | 19, ho, haf => ?_ | 20, ho, haf => ?_ | 21, ho, haf => ?_ | n + 22, ho, haf => absurd ho (by simp))
                      all_goals obtain rfl := Option.some.inj ho
                      refine skip_goodIn _ (wanted_none rfl) ?_; rotate_left
                      refine skip_goodIn _ (wanted_none rfl) ?_; rotate_left
                      have f1 := gF 187 (haf ⟨1, .data⟩ (by simp) rfl); refine skip_goodIn _ (wanted_none rfl) ?_; rotate_left
                      have f0 := gF 186 (haf ⟨0, .data⟩ (by simp) rfl); have f2 := gF 188 (haf ⟨2, .data⟩ (by simp) rfl); refine skip_goodIn _ (wanted_none rfl) ?_; rotate_left
                      have f3 := gF 189 (haf ⟨3, .data⟩ (by simp) rfl); refine skip_goodIn _ (wanted_none rfl) ?_; rotate_left
                      refine skip_goodIn _ (wanted_some rfl (yielded_of (d := 190) rfl (by omega) (haf ⟨4, .guard⟩ (by simp) rfl))) ?_; rotate_left
                      refine skip_goodIn _ (wanted_some rfl (yielded_of (d := 190) rfl (by omega) (haf ⟨4, .guard⟩ (by simp) rfl))) ?_; rotate_left
                      refine skip_goodIn _ (wanted_some rfl (yielded_of (d := 190) rfl (by omega) (haf ⟨4, .guard⟩ (by simp) rfl))) ?_; rotate_left
                      have f6 := gF 192 (haf ⟨6, .data⟩ (by simp) rfl); have f7 := gF 193 (haf ⟨7, .data⟩ (by simp) rfl); refine skip_goodIn _ (wanted_some rfl (yielded_of (d := 190) rfl (by omega) (haf ⟨4, .guard⟩ (by simp) rfl))) ?_; rotate_left
                      have f8 := gF 194 (haf ⟨8, .data⟩ (by simp) rfl); refine skip_goodIn _ (wanted_some rfl (yielded_of (d := 190) rfl (by omega) (haf ⟨4, .guard⟩ (by simp) rfl))) ?_; rotate_left
                      have f9 := gF 195 (haf ⟨9, .data⟩ (by simp) rfl); refine skip_goodIn _ (wanted_some rfl (yielded_of (d := 190) rfl (by omega) (haf ⟨4, .guard⟩ (by simp) rfl))) ?_; rotate_left
                      have f5 := gF 191 (haf ⟨5, .data⟩ (by simp) rfl); have f10 := gF 196 (haf ⟨10, .data⟩ (by simp) rfl); refine skip_goodIn _ (wanted_some rfl (yielded_of (d := 190) rfl (by omega) (haf ⟨4, .guard⟩ (by simp) rfl))) ?_; rotate_left
                      have f4 := gF 190 (haf ⟨4, .data⟩ (by simp) rfl); have f11 := gF 197 (haf ⟨11, .data⟩ (by simp) rfl); refine skip_goodIn _ (wanted_none rfl) ?_; rotate_left
                      have f12 := gF 198 (haf ⟨12, .data⟩ (by simp) rfl); refine skip_goodIn _ (wanted_none rfl) ?_; rotate_left
                      refine skip_goodIn _ (wanted_some rfl (yielded_of (d := 199) rfl (by omega) (haf ⟨13, .guard⟩ (by simp) rfl))) ?_; rotate_left
                      refine skip_goodIn _ (wanted_some rfl (yielded_of (d := 199) rfl (by omega) (haf ⟨13, .guard⟩ (by simp) rfl))) ?_; rotate_left
                      refine skip_goodIn _ (wanted_some rfl (yielded_of (d := 199) rfl (by omega) (haf ⟨13, .guard⟩ (by simp) rfl))) ?_; rotate_left
                      have f15 := gF 201 (haf ⟨15, .data⟩ (by simp) rfl); have f16 := gF 202 (haf ⟨16, .data⟩ (by simp) rfl); refine skip_goodIn _ (wanted_some rfl (yielded_of (d := 199) rfl (by omega) (haf ⟨13, .guard⟩ (by simp) rfl))) ?_; rotate_left
                      have f17 := gF 203 (haf ⟨17, .data⟩ (by simp) rfl); refine skip_goodIn _ (wanted_some rfl (yielded_of (d := 199) rfl (by omega) (haf ⟨13, .guard⟩ (by simp) rfl))) ?_; rotate_left
                      have f18 := gF 204 (haf ⟨18, .data⟩ (by simp) rfl); refine skip_goodIn _ (wanted_some rfl (yielded_of (d := 199) rfl (by omega) (haf ⟨13, .guard⟩ (by simp) rfl))) ?_; rotate_left
                      have f14 := gF 200 (haf ⟨14, .data⟩ (by simp) rfl); have f19 := gF 205 (haf ⟨19, .data⟩ (by simp) rfl); refine skip_goodIn _ (wanted_some rfl (yielded_of (d := 199) rfl (by omega) (haf ⟨13, .guard⟩ (by simp) rfl))) ?_; rotate_left
                      have f13 := gF 199 (haf ⟨13, .data⟩ (by simp) rfl); have f20 := gF 206 (haf ⟨20, .data⟩ (by simp) rfl); refine skip_goodIn _ (wanted_none rfl) ?_; rotate_left
                      all_goals (clear haf ho hsz2; intro K hK; try simp only [List.getD_cons_succ, List.getD_cons_zero] at *; simp only [List.getElem_toArray, List.getElem_cons_succ, List.getElem_cons_zero] at hK ⊢; go_simp; first | exact hK _ _ ⟨Below.refl _ _, hW, rfl⟩ | exact hK _ _ ⟨Below.refl _ _, hW, (by simp only [Value.bool.injEq, decide_eq_false_iff_not]; omega)⟩)
                  · as_aux_lemma =>
                      intro aa w9 hW hdf hsz hout hall
                      have hat := tmps_seq (lo := 186) (by kernel_rfl) (by kernel_rfl) hsz (by kernel_rfl) hout hall
                      obtain ⟨tt, dd⟩ := aa
                      simp only [List.take_succ_cons, List.take_zero, List.drop_succ_cons, List.drop_zero, List.cons_append, List.nil_append, List.length_cons, List.length_nil, Nat.reduceAdd] at hat hdf
                      subst hat hdf
                      clear hsz hout hall
                      have bnw := boxed_below HBNU.out hPU hW
                      have cnw := bnw.cell
                      have fnw := bnw.frozen
                      gi_wp2
                      rw [HW1.out]
                      refine ⟨((ko_belowF hW).trans (KeepsOthers.setCell _ _ _)).from _, (KeepS.of_below hW (fun k hk => ?_)).setCell (p := ⟨P, 0, none⟩) (fun h => ?_) _, (show Boxed (w9.setCell ⟨P, 0, none⟩ _) P _ _ from bnw.set _), ?_, (HB.out.trans (KeepS.of_below hW (fun k hk => by have := hk.1; omega))).setCell (p := ⟨P, 0, none⟩) (fun h => absurd rfl h.2) _, by have := hW.size; simp only [World.setCell, Array.size_modify] <;> omega, HXM.out⟩
                      · rcases hk with hk | hk
                        · have := hk.1; omega
                        · exact (HX.out _ hk).2
                      · rcases h with h | h
                        · exact h.2 rfl
                        · have := HXM.out _ h; have h2 : Fb + 1 ≤ P := this; omega
                      · rw [HMP.out]; exact HYES.out
              · have HNO : Hid (¬ pre.map (fun x => lcF x.1) ++ [(x1, ⟨k, ⟨rl, rk, rkey, rval⟩, ⟨pl, pk, pp, pn, pkey⟩, ⟨ec, eb, ef, es⟩⟩)] <+: wn2.map lcF) := hd (pre_snoc_no (by
                  rw [HPL.out]
                  intro e
                  have e2 := HLC.out.symm.trans e
                  injection e2 with e2
                  injection e2 with e2 _
                  exact hp e2.symm))
                have hpd : ((x1 : Int) != (p0 : Int)) = true := by simp; omega
                clear hbf hp
                gi_wp2
                refine region_skipIn (fun i9 v9 _ => v9 = [.int .i64 (pre.length : Int), .slice (some ⟨gw, 0, none⟩) wn2.length yc, .int .i64 (wn2.length : Int), .bool false, .bool false, .int .i64 (x1 : Int), .slice (some ⟨gw, 0, none⟩) wn2.length yc, .int .i64 (pre.length : Int), .pointer (some ⟨gw, pre.length * 16, none⟩), .pointer (some ⟨gw, pre.length * 16, none⟩), .int .i64 (p0 : Int), .bool true, .bool true, .bool true, undef, undef, undef, undef, undef, undef, undef, .bool true].getD i9 undef) (fun w => Below U.heap.size U w) (fun _ => trivial) hmx (by kernel_rfl) (by kernel_rfl) ((Below.refl _ _).drew) (fun _ _ _ _ _ _ _ h => h) ?_ ?_
                · as_aux_lemma =>
                    intro i9 o9 ho a9 w9 hW hdf hsz hout haf
                    have ee6 := gF 6 (hout 6 (notDst_spec (by kernel_rfl)))
                    have ee9 := gF 9 (hout 9 (notDst_spec (by kernel_rfl)))
                    have ee20 := gF 20 (hout 20 (notDst_spec (by kernel_rfl)))
                    simp only [Array.getD_eq_getD_getElem?, List.getElem?_toArray, List.getElem?_cons_succ, List.getElem?_cons_zero, Option.getD_some] at ee6 ee9 ee20
                    have hsz2 : a9.tmps.size = 220 := hsz
                    clear hout hsz hdf
                    have zzcn := (hW.cell (p := ⟨P, 0, none⟩) hPU).trans cn
                    have zzcq := (hW.cell (p := ⟨Q, 0, none⟩) hQU).trans cq
                    have zzr0 := (hW.cell (p := ⟨gw, pre.length * 16, none⟩) hgU).trans r0
                    refine (match i9, ho, haf with | 0, ho, haf => ?_ | 1, ho, haf => ?_ | 2, ho, haf => ?_ | 3, ho, haf => ?_ | 4, ho, haf => ?_ | 5, ho, haf => ?_ | 6, ho, haf => ?_ | 7, ho, haf => ?_ | 8, ho, haf => ?_ | 9, ho, haf => ?_ | 10, ho, haf => ?_ | 11, ho, haf => ?_ | 12, ho, haf => ?_ | 13, ho, haf => ?_ | 14, ho, haf => ?_ | 15, ho, haf => ?_ | 16, ho, haf => ?_ | 17, ho, haf => ?_ | 18, ho, haf => ?_ | 19, ho, haf => ?_ | 20, ho, haf => ?_ | 21, ho, haf => ?_ | n + 22, ho, haf => absurd ho (by simp))
                    all_goals obtain rfl := Option.some.inj ho
                    refine skip_goodIn _ (wanted_none rfl) ?_; rotate_left
                    refine skip_goodIn _ (wanted_none rfl) ?_; rotate_left
                    have f1 := gF 187 (haf ⟨1, .data⟩ (by simp) rfl); refine skip_goodIn _ (wanted_none rfl) ?_; rotate_left
                    have f0 := gF 186 (haf ⟨0, .data⟩ (by simp) rfl); have f2 := gF 188 (haf ⟨2, .data⟩ (by simp) rfl); refine skip_goodIn _ (wanted_none rfl) ?_; rotate_left
                    have f3 := gF 189 (haf ⟨3, .data⟩ (by simp) rfl); refine skip_goodIn _ (wanted_none rfl) ?_; rotate_left
                    refine skip_goodIn _ (wanted_some rfl (yielded_of (d := 190) rfl (by omega) (haf ⟨4, .guard⟩ (by simp) rfl))) ?_; rotate_left
                    refine skip_goodIn _ (wanted_some rfl (yielded_of (d := 190) rfl (by omega) (haf ⟨4, .guard⟩ (by simp) rfl))) ?_; rotate_left
                    refine skip_goodIn _ (wanted_some rfl (yielded_of (d := 190) rfl (by omega) (haf ⟨4, .guard⟩ (by simp) rfl))) ?_; rotate_left
                    have f6 := gF 192 (haf ⟨6, .data⟩ (by simp) rfl); have f7 := gF 193 (haf ⟨7, .data⟩ (by simp) rfl); refine skip_goodIn _ (wanted_some rfl (yielded_of (d := 190) rfl (by omega) (haf ⟨4, .guard⟩ (by simp) rfl))) ?_; rotate_left
                    have f8 := gF 194 (haf ⟨8, .data⟩ (by simp) rfl); refine skip_goodIn _ (wanted_some rfl (yielded_of (d := 190) rfl (by omega) (haf ⟨4, .guard⟩ (by simp) rfl))) ?_; rotate_left
                    have f9 := gF 195 (haf ⟨9, .data⟩ (by simp) rfl); refine skip_goodIn _ (wanted_some rfl (yielded_of (d := 190) rfl (by omega) (haf ⟨4, .guard⟩ (by simp) rfl))) ?_; rotate_left
                    have f5 := gF 191 (haf ⟨5, .data⟩ (by simp) rfl); have f10 := gF 196 (haf ⟨10, .data⟩ (by simp) rfl); refine skip_goodIn _ (wanted_some rfl (yielded_of (d := 190) rfl (by omega) (haf ⟨4, .guard⟩ (by simp) rfl))) ?_; rotate_left
                    have f4 := gF 190 (haf ⟨4, .data⟩ (by simp) rfl); have f11 := gF 197 (haf ⟨11, .data⟩ (by simp) rfl); refine skip_goodIn _ (wanted_none rfl) ?_; rotate_left
                    have f12 := gF 198 (haf ⟨12, .data⟩ (by simp) rfl); refine skip_goodIn _ (wanted_none rfl) ?_; rotate_left
                    · exact skip_no (b := true) rfl (yielded_of (d := 199) rfl (by omega) (haf ⟨13, .guard⟩ (by simp) rfl)) rfl
                    · exact skip_no (b := true) rfl (yielded_of (d := 199) rfl (by omega) (haf ⟨13, .guard⟩ (by simp) rfl)) rfl
                    · exact skip_no (b := true) rfl (yielded_of (d := 199) rfl (by omega) (haf ⟨13, .guard⟩ (by simp) rfl)) rfl
                    · exact skip_no (b := true) rfl (yielded_of (d := 199) rfl (by omega) (haf ⟨13, .guard⟩ (by simp) rfl)) rfl
                    · exact skip_no (b := true) rfl (yielded_of (d := 199) rfl (by omega) (haf ⟨13, .guard⟩ (by simp) rfl)) rfl
                    · exact skip_no (b := true) rfl (yielded_of (d := 199) rfl (by omega) (haf ⟨13, .guard⟩ (by simp) rfl)) rfl
                    · exact skip_no (b := true) rfl (yielded_of (d := 199) rfl (by omega) (haf ⟨13, .guard⟩ (by simp) rfl)) rfl
                    have f13 := gF 199 (haf ⟨13, .data⟩ (by simp) rfl); have f20 := gF 206 (haf ⟨20, .data⟩ (by simp) rfl); refine skip_goodIn _ (wanted_none rfl) ?_; rotate_left
                    all_goals (clear haf ho hsz2; intro K hK; try simp only [List.getD_cons_succ, List.getD_cons_zero] at *; simp only [List.getElem_toArray, List.getElem_cons_succ, List.getElem_cons_zero] at hK ⊢; go_simp; first | exact hK _ _ ⟨Below.refl _ _, hW, rfl⟩ | exact hK _ _ ⟨Below.refl _ _, hW, (by simp only [Value.bool.injEq, decide_eq_false_iff_not]; omega)⟩)
                · as_aux_lemma =>
                    intro aa w9 hW hdf hsz hout hall
                    have hat := tmps_seq (lo := 186) (by kernel_rfl) (by kernel_rfl) hsz (by kernel_rfl) hout hall
                    obtain ⟨tt, dd⟩ := aa
                    simp only [List.take_succ_cons, List.take_zero, List.drop_succ_cons, List.drop_zero, List.cons_append, List.nil_append, List.length_cons, List.length_nil, Nat.reduceAdd] at hat hdf
                    subst hat hdf
                    clear hsz hout hall
                    have brw := boxed_below HBRU.out hN1U hW
                    have cr := brw.cell
                    have fr := brw.frozen
                    gi_wp2
                    refine ⟨((ko_belowF hW).trans (KeepsOthers.setCell _ _ _)).from _, ?_⟩
                    exact ⟨rfl, (fun h => HNO.out (by rw [← HMP.out]; exact h))⟩
            · have hge : (pre.length : Int) ≥ (wn2.length : Int) := by omega
              have HNO : Hid (¬ pre.map (fun x => lcF x.1) ++ [(x1, ⟨k, ⟨rl, rk, rkey, rval⟩, ⟨pl, pk, pp, pn, pkey⟩, ⟨ec, eb, ef, es⟩⟩)] <+: wn2.map lcF) := hd (pre_snoc_no (by
                rw [HPL.out, List.getElem?_eq_none (by rw [List.length_map]; omega)]
                intro e
                cases e))
              gi_wp2
              refine region_skipIn (fun i9 v9 _ => v9 = [.int .i64 (pre.length : Int), .slice ya wn2.length yc, .int .i64 (wn2.length : Int), .bool true, .bool true, undef, undef, undef, undef, undef, undef, undef, .bool true, .bool true, undef, undef, undef, undef, undef, undef, undef, .bool true].getD i9 undef) (fun w => Below U.heap.size U w) (fun _ => trivial) hmx (by kernel_rfl) (by kernel_rfl) ((Below.refl _ _).drew) (fun _ _ _ _ _ _ _ h => h) ?_ ?_
              · as_aux_lemma =>
                  intro i9 o9 ho a9 w9 hW hdf hsz hout haf
                  have ee6 := gF 6 (hout 6 (notDst_spec (by kernel_rfl)))
                  have ee9 := gF 9 (hout 9 (notDst_spec (by kernel_rfl)))
                  simp only [Array.getD_eq_getD_getElem?, List.getElem?_toArray, List.getElem?_cons_succ, List.getElem?_cons_zero, Option.getD_some] at ee6 ee9
                  have hsz2 : a9.tmps.size = 220 := hsz
                  clear hout hsz hdf
                  have zzcn := (hW.cell (p := ⟨P, 0, none⟩) hPU).trans cn
                  have zzcq := (hW.cell (p := ⟨Q, 0, none⟩) hQU).trans cq
                  refine (match i9, ho, haf with | 0, ho, haf => ?_ | 1, ho, haf => ?_ | 2, ho, haf => ?_ | 3, ho, haf => ?_ | 4, ho, haf => ?_ | 5, ho, haf => ?_ | 6, ho, haf => ?_ | 7, ho, haf => ?_ | 8, ho, haf => ?_ | 9, ho, haf => ?_ | 10, ho, haf => ?_ | 11, ho, haf => ?_ | 12, ho, haf => ?_ | 13, ho, haf => ?_ | 14, ho, haf => ?_ | 15, ho, haf => ?_ | 16, ho, haf => ?_ | 17, ho, haf => ?_ | 18, ho, haf => ?_ | 19, ho, haf => ?_ | 20, ho, haf => ?_ | 21, ho, haf => ?_ | n + 22, ho, haf => absurd ho (by simp))
                  all_goals obtain rfl := Option.some.inj ho
                  refine skip_goodIn _ (wanted_none rfl) ?_; rotate_left
                  refine skip_goodIn _ (wanted_none rfl) ?_; rotate_left
                  have f1 := gF 187 (haf ⟨1, .data⟩ (by simp) rfl); refine skip_goodIn _ (wanted_none rfl) ?_; rotate_left
                  have f0 := gF 186 (haf ⟨0, .data⟩ (by simp) rfl); have f2 := gF 188 (haf ⟨2, .data⟩ (by simp) rfl); refine skip_goodIn _ (wanted_none rfl) ?_; rotate_left
                  have f3 := gF 189 (haf ⟨3, .data⟩ (by simp) rfl); refine skip_goodIn _ (wanted_none rfl) ?_; rotate_left
                  · exact skip_no (b := true) rfl (yielded_of (d := 190) rfl (by omega) (haf ⟨4, .guard⟩ (by simp) rfl)) rfl
                  · exact skip_no (b := true) rfl (yielded_of (d := 190) rfl (by omega) (haf ⟨4, .guard⟩ (by simp) rfl)) rfl
                  · exact skip_no (b := true) rfl (yielded_of (d := 190) rfl (by omega) (haf ⟨4, .guard⟩ (by simp) rfl)) rfl
                  · exact skip_no (b := true) rfl (yielded_of (d := 190) rfl (by omega) (haf ⟨4, .guard⟩ (by simp) rfl)) rfl
                  · exact skip_no (b := true) rfl (yielded_of (d := 190) rfl (by omega) (haf ⟨4, .guard⟩ (by simp) rfl)) rfl
                  · exact skip_no (b := true) rfl (yielded_of (d := 190) rfl (by omega) (haf ⟨4, .guard⟩ (by simp) rfl)) rfl
                  · exact skip_no (b := true) rfl (yielded_of (d := 190) rfl (by omega) (haf ⟨4, .guard⟩ (by simp) rfl)) rfl
                  have f4 := gF 190 (haf ⟨4, .data⟩ (by simp) rfl); have f11 := gF 197 (haf ⟨11, .data⟩ (by simp) rfl); refine skip_goodIn _ (wanted_none rfl) ?_; rotate_left
                  have f12 := gF 198 (haf ⟨12, .data⟩ (by simp) rfl); refine skip_goodIn _ (wanted_none rfl) ?_; rotate_left
                  · exact skip_no (b := true) rfl (yielded_of (d := 199) rfl (by omega) (haf ⟨13, .guard⟩ (by simp) rfl)) rfl
                  · exact skip_no (b := true) rfl (yielded_of (d := 199) rfl (by omega) (haf ⟨13, .guard⟩ (by simp) rfl)) rfl
                  · exact skip_no (b := true) rfl (yielded_of (d := 199) rfl (by omega) (haf ⟨13, .guard⟩ (by simp) rfl)) rfl
                  · exact skip_no (b := true) rfl (yielded_of (d := 199) rfl (by omega) (haf ⟨13, .guard⟩ (by simp) rfl)) rfl
                  · exact skip_no (b := true) rfl (yielded_of (d := 199) rfl (by omega) (haf ⟨13, .guard⟩ (by simp) rfl)) rfl
                  · exact skip_no (b := true) rfl (yielded_of (d := 199) rfl (by omega) (haf ⟨13, .guard⟩ (by simp) rfl)) rfl
                  · exact skip_no (b := true) rfl (yielded_of (d := 199) rfl (by omega) (haf ⟨13, .guard⟩ (by simp) rfl)) rfl
                  have f13 := gF 199 (haf ⟨13, .data⟩ (by simp) rfl); have f20 := gF 206 (haf ⟨20, .data⟩ (by simp) rfl); refine skip_goodIn _ (wanted_none rfl) ?_; rotate_left
                  all_goals (clear haf ho hsz2; intro K hK; try simp only [List.getD_cons_succ, List.getD_cons_zero] at *; simp only [List.getElem_toArray, List.getElem_cons_succ, List.getElem_cons_zero] at hK ⊢; go_simp; first | exact hK _ _ ⟨Below.refl _ _, hW, rfl⟩ | exact hK _ _ ⟨Below.refl _ _, hW, (by simp only [Value.bool.injEq, decide_eq_true_eq]; omega)⟩)
              · as_aux_lemma =>
                  intro aa w9 hW hdf hsz hout hall
                  have hat := tmps_seq (lo := 186) (by kernel_rfl) (by kernel_rfl) hsz (by kernel_rfl) hout hall
                  obtain ⟨tt, dd⟩ := aa
                  simp only [List.take_succ_cons, List.take_zero, List.drop_succ_cons, List.drop_zero, List.cons_append, List.nil_append, List.length_cons, List.length_nil, Nat.reduceAdd] at hat hdf
                  subst hat hdf
                  clear hsz hout hall
                  have brw := boxed_below HBRU.out hN1U hW
                  have cr := brw.cell
                  have fr := brw.frozen
                  gi_wp2
                  refine ⟨((ko_belowF hW).trans (KeepsOthers.setCell _ _ _)).from _, ?_⟩
                  exact ⟨rfl, (fun h => HNO.out (by rw [← HMP.out]; exact h))⟩
        have HR := hd R
        clear R HK
        refine (wpIn_wide (n := 8)).1 ?_
        refine wpIn_rangeFunc_X (gf := 47) (lb := #[.pointer (some ⟨Q + 1, 0, none⟩)]) rfl (enters_of Try.func47 (by kernel_rfl) rfl) HSQ.out HKS.out (Below.refl _ _) (fun _ => rfl)
          (SfJ P S4 V4 (wn2.map lcF)) (fun (c : Code) (pre : List (PL l2.length)) (_ : Nat → Prop) (_ : World) => c = .ret ∧ ¬ pre.map (fun (x : PL l2.length) => lcF x.1) <+: wn2.map lcF) (hs4 ▸ sfJ_abides (by omega)) (fun _ _ _ _ _ _ h _ _ => h) ⟨BN4.out, List.nil_prefix, KeepS.refl _, by omega, fun _ h => h.elim⟩
          (fun (x : PL l2.length) a' U => ∃ Bx, S4 ≤ Bx ∧ Blk U Bx 41 (frv x.1.2.2) ∧ a' = { tmps := #[.slice a l.length c, .int .i64 z, undef, .pointer (some ⟨N, 0, none⟩), .pointer (some ⟨N + 1, 0, none⟩), .slice (some ⟨G, 0, none⟩) l.length (l.length + 8), .pointer (some ⟨Q, 0, none⟩), .pointer (some ⟨Q + 2, 0, none⟩), .func (.func 47) #[] #[.pointer (some ⟨Q + 4, 0, none⟩)], .pointer (some ⟨P, 0, none⟩), undef, undef, undef, undef, undef, undef, undef, .bool true, .int .i64 (x.1.1 : Int), .pointer (some ⟨Bx, 0, none⟩), undef, undef, .slice a l.length c, .slice (some ⟨G, 0, none⟩) l.length (l.length + 8), .slice a l.length c, .slice xa wn.length xc, .slice (some ⟨G, 0, none⟩) l.length (l.length + 8), .func (.func 47) #[] #[.pointer (some ⟨Q + 1, 0, none⟩)], .slice (some ⟨Q + 3, 0, none⟩) 4 4, .func (.func 47) #[] #[.pointer (some ⟨Q + 4, 0, none⟩)], .func (.func 47) #[] #[.pointer (some ⟨Q + 1, 0, none⟩)], .bool false, .bool false, .func (.func 47) #[] #[.pointer (some ⟨Q + 4, 0, none⟩)], .bool false, .bool false, .func (.func 47) #[] #[.pointer (some ⟨Q + 1, 0, none⟩)], undef, undef, undef, undef, undef, undef, undef, undef, undef, undef, undef, undef, undef, undef, undef, undef, undef, undef, undef, undef, undef, undef, undef, undef, undef, undef, undef, undef, undef, u66, u67, u68, u69, u70, u71, u72, u73, u74, .func (.func 47) #[] #[.pointer (some ⟨Q + 1, 0, none⟩)], undef, undef, undef, undef, undef, undef, undef, undef, undef, undef, undef, undef, undef, undef, undef, undef, undef, undef, undef, undef, undef, undef, undef, undef, undef, undef, undef, undef, undef, undef, undef, undef, undef, undef, undef, undef, undef, undef, undef, undef, undef, undef, undef, undef, undef, undef, undef, undef, undef, undef, undef, undef, undef, undef, undef, undef, undef, undef, undef, .func (.func 47) #[] #[.pointer (some ⟨Q + 4, 0, none⟩)], undef, undef, .int .i64 (wn.length : Int), .slice xa wn.length xc, .int .i64 (wn.length : Int), .bool true, .bool true, .slice (some ⟨G, 0, none⟩) l.length (l.length + 8), .slice a l.length c, .bool true, .bool true, .slice (some ⟨G, 0, none⟩) l.length (l.length + 8), vt, .slice (some ⟨G, 0, none⟩) l.length (l.length + 8), .slice ya wn2.length yc, .func (.func 47) #[] #[.pointer (some ⟨Q + 1, 0, none⟩)], .int .i64 (x.1.1 : Int), .agg (frv x.1.2.2).toArray, undef, undef, undef, undef, undef, undef, undef, undef, undef, undef, undef, undef, undef, undef, undef, undef, undef, undef, undef, undef, undef, undef, undef, undef, undef, undef, undef, undef, undef, undef, undef, undef, undef, undef, undef, undef, undef, undef, undef, undef, undef, undef, undef, undef, undef, undef, undef, undef, undef, undef, undef, undef, undef, undef, undef, undef, undef, undef, undef, undef, undef, undef, undef, undef, undef, undef], defers := [] })
          (fun x a' _ V V' row hs hg hr => by
            obtain ⟨Bx, h1, h2, h3⟩ := hs
            exact ⟨Bx, by omega, blkQ_kept h2 hg (fun r e => (hr r e).2), h3⟩)
          ?assign5 ?body5 ?done5 ?stop5
        case assign5 =>
          rintro lk pre ⟨⟨x1, x2, k, ⟨rl, rk, rkey, rval⟩, ⟨pl, pk, pa', pn, pkey⟩, ⟨ec, eb, ef, es⟩⟩, hx⟩ X V K hi hX hK
          simp only [enc2, frv]
          gi_wp2
          have hsV := hi.2.2.2.1
          exact hK _ _ ((KeepsOthers.alloc _ _).from _) ((KeepS.refl _).alloc (fun k hk => by rcases hk with hk | hk; have := hk.1; omega; exact (hX k hk).2) _) (sfJ_abides (by omega) pre X X _ _ hi (Turned.alloc _ _) (fun _ h => .inl h)) ⟨V.heap.size, by omega, Blk.new V 41 (frv ⟨k, ⟨rl, rk, rkey, rval⟩, ⟨pl, pk, pa', pn, pkey⟩, ⟨ec, eb, ef, es⟩⟩), rfl⟩
        case stop5 =>
          rintro D4 c2 pre X U hD4 hp ⟨rfl, hj⟩ hKD4
          exfalso
          apply hj
          obtain ⟨r, hr⟩ := hp
          refine ⟨r.map lcF, ?_⟩
          rw [HWN2.out, ← hr, List.map_append, List.map_map]
          rfl
        case done5 =>
          rintro D4 ys X U hD4 hys ⟨bn, hpre, hB, hsU, hXM⟩ hKD4
          gi_wp2
          have hyl : ys.length = wn2.length := by rw [HWN2.out, ← hys, List.length_map]
          rw [hyl] at bn
          exact HR.out D4 U (by omega) bn hB hsU hKD4
        case body5 =>
          have BWV := BW4
          have BRV := BR4
          have JV := J4
          have HWV := HYG4
          rintro lk pre ⟨⟨x1, x2, f⟩, hx⟩ X a' U hlk hlp hX ⟨bn, hpre, hB, hsU, hXM⟩ ⟨Bx, hBx, hblk, rfl⟩ hlen
          obtain ⟨k, ⟨rl, rk, rkey, rval⟩, ⟨pl, pk, pp, pn, pkey⟩, ⟨ec, eb, ef, es⟩⟩ := f
          have hblk : Blk U Bx 41 [.int .i64 k, .int .u64 (rl : Int), .int .i64 rk, .string rkey, .string rval, .int .u64 (pl : Int), .int .i64 pk, .int .i64 pp, .int .i64 pn, .string pkey, .int .i64 ec, .int .i64 eb, .int .i64 ef, .int .u32 (es : Int)] := hblk
          have hBxU : Bx < U.heap.size := (Array.getElem?_eq_some_iff.1 hblk).1
          have k0 := hblk.cell 0 _ rfl
          have k1 := hblk.cell 1 _ rfl
          have k2 := hblk.cell 2 _ rfl
          have k3 := hblk.cell 3 _ rfl
          have k4 := hblk.cell 4 _ rfl
          have k5 := hblk.cell 5 _ rfl
          have k6 := hblk.cell 6 _ rfl
          have k7 := hblk.cell 7 _ rfl
          have k8 := hblk.cell 8 _ rfl
          have k9 := hblk.cell 9 _ rfl
          have k10 := hblk.cell 10 _ rfl
          have k11 := hblk.cell 11 _ rfl
          have k12 := hblk.cell 12 _ rfl
          have k13 := hblk.cell 13 _ rfl
          have cn := bn.cell
          have cq := (boxed_keepS BWV.out ⟨by omega, by omega⟩ hB).cell
          have hPU : P < U.heap.size := by omega
          have hQU : Q < U.heap.size := by omega
          have hN1U : N + 1 < U.heap.size := by omega
          have HMP : Hid ((pre ++ [(⟨(x1, x2, ⟨k, ⟨rl, rk, rkey, rval⟩, ⟨pl, pk, pp, pn, pkey⟩, ⟨ec, eb, ef, es⟩⟩), hx⟩ : PL l2.length)]).map (fun x => lcF x.1) = pre.map (fun x => lcF x.1) ++ [(x1, ⟨k, ⟨rl, rk, rkey, rval⟩, ⟨pl, pk, pp, pn, pkey⟩, ⟨ec, eb, ef, es⟩⟩)]) := by
            show _ = _
            rw [List.map_append, List.map_singleton]
            rfl
          have HPL : Hid ((pre.map (fun x => lcF x.1)).length = pre.length) := List.length_map _
          have HPRE := hd hpre
          have HB := hd hB
          have HBNU := hd bn
          have HBRU := hd (boxed_keepS BRV.out ⟨by omega, by omega⟩ hB)
          have HJU := hd (JV.out.keepS (fun g hg => HWV.out g hg) hB)
          have HXM := hd hXM
          have HX := hd hX
          clear hpre hB bn hXM hX
          by_cases hlt : pre.length < wn2.length
          · have hge : ¬ ((pre.length : Int) ≥ (wn2.length : Int)) := by omega
            obtain ⟨⟨p0, n0, kd0, ⟨rl0, rk0, rkey0, rval0⟩, ⟨pl0, pk0, pp0, pn0, pkey0⟩, ⟨ec0, eb0, ef0, es0⟩⟩, hlc⟩ : ∃ x, wn2[pre.length]? = some x := ⟨_, List.getElem?_eq_getElem hlt⟩
            have hxm : (wn2.map fov)[pre.length]? = some [.int .i64 (p0 : Int), .int .i64 (n0 : Int), .int .i64 kd0, .int .u64 (rl0 : Int), .int .i64 rk0, .string rkey0, .string rval0, .int .u64 (pl0 : Int), .int .i64 pk0, .int .i64 pp0, .int .i64 pn0, .string pkey0, .int .i64 ec0, .int .i64 eb0, .int .i64 ef0, .int .u32 (es0 : Int)] := by rw [List.getElem?_map, hlc]; rfl
            obtain ⟨gw, cv', hv1, hg1, hm1⟩ := HJU.out.nn (by intro e; rw [e] at hxm; simp at hxm)
            injection hv1 with e1 e2 e3
            subst e1
            have hgU : gw < U.heap.size := HJU.out.blk_lt gw rfl
            have r0 := HJU.out.at pre.length _ 0 _ hxm rfl
            rw [Nat.add_zero] at r0
            have r2 := HJU.out.at pre.length _ 2 _ hxm rfl
            have r3 := HJU.out.at pre.length _ 3 _ hxm rfl
            have r4 := HJU.out.at pre.length _ 4 _ hxm rfl
            have r5 := HJU.out.at pre.length _ 5 _ hxm rfl
            have r6 := HJU.out.at pre.length _ 6 _ hxm rfl
            have r7 := HJU.out.at pre.length _ 7 _ hxm rfl
            have r8 := HJU.out.at pre.length _ 8 _ hxm rfl
            have r9 := HJU.out.at pre.length _ 9 _ hxm rfl
            have r10 := HJU.out.at pre.length _ 10 _ hxm rfl
            have r11 := HJU.out.at pre.length _ 11 _ hxm rfl
            have r12 := HJU.out.at pre.length _ 12 _ hxm rfl
            have r13 := HJU.out.at pre.length _ 13 _ hxm rfl
            have r14 := HJU.out.at pre.length _ 14 _ hxm rfl
            have r15 := HJU.out.at pre.length _ 15 _ hxm rfl
            have HLC : Hid ((wn2.map lcF)[pre.length]? = some (p0, ⟨kd0, ⟨rl0, rk0, rkey0, rval0⟩, ⟨pl0, pk0, pp0, pn0, pkey0⟩, ⟨ec0, eb0, ef0, es0⟩⟩)) := by
              show _ = _
              rw [List.getElem?_map, hlc]; rfl
            obtain ⟨bb, hbb, hbf⟩ := neq_any ⟨k, ⟨rl, rk, rkey, rval⟩, ⟨pl, pk, pp, pn, pkey⟩, ⟨ec, eb, ef, es⟩⟩ ⟨kd0, ⟨rl0, rk0, rkey0, rval0⟩, ⟨pl0, pk0, pp0, pn0, pkey0⟩, ⟨ec0, eb0, ef0, es0⟩⟩
            have heq : ∀ w, (binOp .neq 41 (.agg #[.int .i64 k, .int .u64 (rl : Int), .int .i64 rk, .string rkey, .string rval, .int .u64 (pl : Int), .int .i64 pk, .int .i64 pp, .int .i64 pn, .string pkey, .int .i64 ec, .int .i64 eb, .int .i64 ef, .int .u32 (es : Int)]) (.agg #[.int .i64 kd0, .int .u64 (rl0 : Int), .int .i64 rk0, .string rkey0, .string rval0, .int .u64 (pl0 : Int), .int .i64 pk0, .int .i64 pp0, .int .i64 pn0, .string pkey0, .int .i64 ec0, .int .i64 eb0, .int .i64 ef0, .int .u32 (es0 : Int)])).run Try.prog w = .ok (.bool bb) w := hbb
            clear hbb hlc hxm hg1 hm1 e2 e3
            by_cases hp : x1 = p0
            · subst hp
              cases bb with
              | true =>
                have HNO : Hid (¬ pre.map (fun x => lcF x.1) ++ [(x1, ⟨k, ⟨rl, rk, rkey, rval⟩, ⟨pl, pk, pp, pn, pkey⟩, ⟨ec, eb, ef, es⟩⟩)] <+: wn2.map lcF) := hd (pre_snoc_no (by
                  rw [HPL.out]
                  intro e
                  have e2 := HLC.out.symm.trans e
                  injection e2 with e2
                  injection e2 with _ e2
                  have := hbf.2 e2.symm
                  cases this))
                clear hbf
                gi_wp2
                refine region_skipIn (fun i9 v9 _ => v9 = [.int .i64 (pre.length : Int), .slice (some ⟨gw, 0, none⟩) wn2.length yc, .int .i64 (wn2.length : Int), .bool false, .bool false, .int .i64 (x1 : Int), .slice (some ⟨gw, 0, none⟩) wn2.length yc, .int .i64 (pre.length : Int), .pointer (some ⟨gw, pre.length * 16, none⟩), .pointer (some ⟨gw, pre.length * 16, none⟩), .int .i64 (x1 : Int), .bool false, .bool false, .bool false, .agg #[.int .i64 k, .int .u64 (rl : Int), .int .i64 rk, .string rkey, .string rval, .int .u64 (pl : Int), .int .i64 pk, .int .i64 pp, .int .i64 pn, .string pkey, .int .i64 ec, .int .i64 eb, .int .i64 ef, .int .u32 (es : Int)], .slice (some ⟨gw, 0, none⟩) wn2.length yc, .int .i64 (pre.length : Int), .pointer (some ⟨gw, pre.length * 16, none⟩), .pointer (some ⟨gw, pre.length * 16 + 2, none⟩), .agg #[.int .i64 kd0, .int .u64 (rl0 : Int), .int .i64 rk0, .string rkey0, .string rval0, .int .u64 (pl0 : Int), .int .i64 pk0, .int .i64 pp0, .int .i64 pn0, .string pkey0, .int .i64 ec0, .int .i64 eb0, .int .i64 ef0, .int .u32 (es0 : Int)], .bool true, .bool true].getD i9 undef) (fun w => Below U.heap.size U w) (fun _ => trivial) hmx (by kernel_rfl) (by kernel_rfl) ((Below.refl _ _).drew) (fun _ _ _ _ _ _ _ h => h) ?_ ?_
                · as_aux_lemma =>
                    intro i9 o9 ho a9 w9 hW hdf hsz hout haf
                    have ee6 := gF 6 (hout 6 (notDst_spec (by kernel_rfl)))
                    have ee9 := gF 9 (hout 9 (notDst_spec (by kernel_rfl)))
                    have ee18 := gF 18 (hout 18 (notDst_spec (by kernel_rfl)))
                    have ee19 := gF 19 (hout 19 (notDst_spec (by kernel_rfl)))
                    simp only [Array.getD_eq_getD_getElem?, List.getElem?_toArray, List.getElem?_cons_succ, List.getElem?_cons_zero, Option.getD_some] at ee6 ee9 ee18 ee19
                    have hsz2 : a9.tmps.size = 220 := hsz
                    clear hout hsz hdf
                    have zzcn := (hW.cell (p := ⟨P, 0, none⟩) hPU).trans cn
                    have zzcq := (hW.cell (p := ⟨Q, 0, none⟩) hQU).trans cq
                    have zzr0 := (hW.cell (p := ⟨gw, pre.length * 16, none⟩) hgU).trans r0
                    have zzk0 := (hW.cell (p := ⟨Bx, 0, none⟩) hBxU).trans k0
                    have zzk1 := (hW.cell (p := ⟨Bx, 1, none⟩) hBxU).trans k1
                    have zzk2 := (hW.cell (p := ⟨Bx, 2, none⟩) hBxU).trans k2
                    have zzk3 := (hW.cell (p := ⟨Bx, 3, none⟩) hBxU).trans k3
                    have zzk4 := (hW.cell (p := ⟨Bx, 4, none⟩) hBxU).trans k4
                    have zzk5 := (hW.cell (p := ⟨Bx, 5, none⟩) hBxU).trans k5
                    have zzk6 := (hW.cell (p := ⟨Bx, 6, none⟩) hBxU).trans k6
                    have zzk7 := (hW.cell (p := ⟨Bx, 7, none⟩) hBxU).trans k7
                    have zzk8 := (hW.cell (p := ⟨Bx, 8, none⟩) hBxU).trans k8
                    have zzk9 := (hW.cell (p := ⟨Bx, 9, none⟩) hBxU).trans k9
                    have zzk10 := (hW.cell (p := ⟨Bx, 10, none⟩) hBxU).trans k10
                    have zzk11 := (hW.cell (p := ⟨Bx, 11, none⟩) hBxU).trans k11
                    have zzk12 := (hW.cell (p := ⟨Bx, 12, none⟩) hBxU).trans k12
                    have zzk13 := (hW.cell (p := ⟨Bx, 13, none⟩) hBxU).trans k13
                    have zzr2 := (hW.cell (p := ⟨gw, pre.length * 16 + 2, none⟩) hgU).trans r2
                    have zzr3 := (hW.cell (p := ⟨gw, pre.length * 16 + 3, none⟩) hgU).trans r3
                    have zzr4 := (hW.cell (p := ⟨gw, pre.length * 16 + 4, none⟩) hgU).trans r4
                    have zzr5 := (hW.cell (p := ⟨gw, pre.length * 16 + 5, none⟩) hgU).trans r5
                    have zzr6 := (hW.cell (p := ⟨gw, pre.length * 16 + 6, none⟩) hgU).trans r6
                    have zzr7 := (hW.cell (p := ⟨gw, pre.length * 16 + 7, none⟩) hgU).trans r7
                    have zzr8 := (hW.cell (p := ⟨gw, pre.length * 16 + 8, none⟩) hgU).trans r8
                    have zzr9 := (hW.cell (p := ⟨gw, pre.length * 16 + 9, none⟩) hgU).trans r9
                    have zzr10 := (hW.cell (p := ⟨gw, pre.length * 16 + 10, none⟩) hgU).trans r10
                    have zzr11 := (hW.cell (p := ⟨gw, pre.length * 16 + 11, none⟩) hgU).trans r11
                    have zzr12 := (hW.cell (p := ⟨gw, pre.length * 16 + 12, none⟩) hgU).trans r12
                    have zzr13 := (hW.cell (p := ⟨gw, pre.length * 16 + 13, none⟩) hgU).trans r13
                    have zzr14 := (hW.cell (p := ⟨gw, pre.length * 16 + 14, none⟩) hgU).trans r14
                    have zzr15 := (hW.cell (p := ⟨gw, pre.length * 16 + 15, none⟩) hgU).trans r15
                    refine (match i9, ho, haf with | 0, ho, haf => ?_ | 1, ho, haf => ?_ | 2, ho, haf => ?_ | 3, ho, haf => ?_ | 4, ho, haf => ?_ | 5, ho, haf => ?_ | 6, ho, haf => ?_ | 7, ho, haf => ?_ | 8, ho, haf => ?_ | 9, ho, haf => ?_ | 10, ho, haf => ?_ | 11, ho, haf => ?_ | 12, ho, haf => ?_ | 13, ho, haf => ?_ | 14, ho, haf => ?_ | 15, ho, haf => ?_ | 16, ho, haf => ?_ | 17, ho, haf => ?_ | 18, ho, haf => ?_ | 19, ho, haf => ?_ | 20, ho, haf => ?_ | 21, ho, haf => ?_ | n + 22, ho, haf => absurd ho (by simp))
                    all_goals obtain rfl := Option.some.inj ho
                    refine skip_goodIn _ (wanted_none rfl) ?_; rotate_left
                    refine skip_goodIn _ (wanted_none rfl) ?_; rotate_left
                    have f1 := gF 155 (haf ⟨1, .data⟩ (by simp) rfl); refine skip_goodIn _ (wanted_none rfl) ?_; rotate_left
                    have f0 := gF 154 (haf ⟨0, .data⟩ (by simp) rfl); have f2 := gF 156 (haf ⟨2, .data⟩ (by simp) rfl); refine skip_goodIn _ (wanted_none rfl) ?_; rotate_left
                    have f3 := gF 157 (haf ⟨3, .data⟩ (by simp) rfl); refine skip_goodIn _ (wanted_none rfl) ?_; rotate_left
                    refine skip_goodIn _ (wanted_some rfl (yielded_of (d := 158) rfl (by omega) (haf ⟨4, .guard⟩ (by simp) rfl))) ?_; rotate_left
                    refine skip_goodIn _ (wanted_some rfl (yielded_of (d := 158) rfl (by omega) (haf ⟨4, .guard⟩ (by simp) rfl))) ?_; rotate_left
                    refine skip_goodIn _ (wanted_some rfl (yielded_of (d := 158) rfl (by omega) (haf ⟨4, .guard⟩ (by simp) rfl))) ?_; rotate_left
                    have f6 := gF 160 (haf ⟨6, .data⟩ (by simp) rfl); have f7 := gF 161 (haf ⟨7, .data⟩ (by simp) rfl); refine skip_goodIn _ (wanted_some rfl (yielded_of (d := 158) rfl (by omega) (haf ⟨4, .guard⟩ (by simp) rfl))) ?_; rotate_left
                    have f8 := gF 162 (haf ⟨8, .data⟩ (by simp) rfl); refine skip_goodIn _ (wanted_some rfl (yielded_of (d := 158) rfl (by omega) (haf ⟨4, .guard⟩ (by simp) rfl))) ?_; rotate_left
                    have f9 := gF 163 (haf ⟨9, .data⟩ (by simp) rfl); refine skip_goodIn _ (wanted_some rfl (yielded_of (d := 158) rfl (by omega) (haf ⟨4, .guard⟩ (by simp) rfl))) ?_; rotate_left
                    have f5 := gF 159 (haf ⟨5, .data⟩ (by simp) rfl); have f10 := gF 164 (haf ⟨10, .data⟩ (by simp) rfl); refine skip_goodIn _ (wanted_some rfl (yielded_of (d := 158) rfl (by omega) (haf ⟨4, .guard⟩ (by simp) rfl))) ?_; rotate_left
                    have f4 := gF 158 (haf ⟨4, .data⟩ (by simp) rfl); have f11 := gF 165 (haf ⟨11, .data⟩ (by simp) rfl); refine skip_goodIn _ (wanted_none rfl) ?_; rotate_left
                    have f12 := gF 166 (haf ⟨12, .data⟩ (by simp) rfl); refine skip_goodIn _ (wanted_none rfl) ?_; rotate_left
                    refine skip_goodIn _ (wanted_some rfl (yielded_of (d := 167) rfl (by omega) (haf ⟨13, .guard⟩ (by simp) rfl))) ?_; rotate_left
                    refine skip_goodIn _ (wanted_some rfl (yielded_of (d := 167) rfl (by omega) (haf ⟨13, .guard⟩ (by simp) rfl))) ?_; rotate_left
                    refine skip_goodIn _ (wanted_some rfl (yielded_of (d := 167) rfl (by omega) (haf ⟨13, .guard⟩ (by simp) rfl))) ?_; rotate_left
                    have f15 := gF 169 (haf ⟨15, .data⟩ (by simp) rfl); have f16 := gF 170 (haf ⟨16, .data⟩ (by simp) rfl); refine skip_goodIn _ (wanted_some rfl (yielded_of (d := 167) rfl (by omega) (haf ⟨13, .guard⟩ (by simp) rfl))) ?_; rotate_left
                    have f17 := gF 171 (haf ⟨17, .data⟩ (by simp) rfl); refine skip_goodIn _ (wanted_some rfl (yielded_of (d := 167) rfl (by omega) (haf ⟨13, .guard⟩ (by simp) rfl))) ?_; rotate_left
                    have f18 := gF 172 (haf ⟨18, .data⟩ (by simp) rfl); refine skip_goodIn _ (wanted_some rfl (yielded_of (d := 167) rfl (by omega) (haf ⟨13, .guard⟩ (by simp) rfl))) ?_; rotate_left
                    have f14 := gF 168 (haf ⟨14, .data⟩ (by simp) rfl); have f19 := gF 173 (haf ⟨19, .data⟩ (by simp) rfl); refine skip_goodIn _ (wanted_some rfl (yielded_of (d := 167) rfl (by omega) (haf ⟨13, .guard⟩ (by simp) rfl))) ?_; rotate_left
                    have f13 := gF 167 (haf ⟨13, .data⟩ (by simp) rfl); have f20 := gF 174 (haf ⟨20, .data⟩ (by simp) rfl); refine skip_goodIn _ (wanted_none rfl) ?_; rotate_left
                    all_goals (clear haf ho hsz2; intro K hK; try simp only [List.getD_cons_succ, List.getD_cons_zero] at *; simp only [List.getElem_toArray, List.getElem_cons_succ, List.getElem_cons_zero] at hK ⊢; go_simp; first | exact hK _ _ ⟨Below.refl _ _, hW, rfl⟩ | exact hK _ _ ⟨Below.refl _ _, hW, (by simp only [Value.bool.injEq, decide_eq_false_iff_not]; omega)⟩)
                · as_aux_lemma =>
                    intro aa w9 hW hdf hsz hout hall
                    have hat := tmps_seq (lo := 154) (by kernel_rfl) (by kernel_rfl) hsz (by kernel_rfl) hout hall
                    obtain ⟨tt, dd⟩ := aa
                    simp only [List.take_succ_cons, List.take_zero, List.drop_succ_cons, List.drop_zero, List.cons_append, List.nil_append, List.length_cons, List.length_nil, Nat.reduceAdd] at hat hdf
                    subst hat hdf
                    clear hsz hout hall
                    have brw := boxed_below HBRU.out hN1U hW
                    have cr := brw.cell
                    have fr := brw.frozen
                    gi_wp2
                    refine ⟨((ko_belowF hW).trans (KeepsOthers.setCell _ _ _)).from _, ?_⟩
                    exact ⟨rfl, (fun h => HNO.out (by rw [← HMP.out]; exact h))⟩
              | false =>
                have HYES : Hid (pre.map (fun x => lcF x.1) ++ [(x1, ⟨k, ⟨rl, rk, rkey, rval⟩, ⟨pl, pk, pp, pn, pkey⟩, ⟨ec, eb, ef, es⟩⟩)] <+: wn2.map lcF) := hd (pre_snoc_yes HPRE.out (by
                  rw [HPL.out, HLC.out, hbf.1 rfl]))
                have HW1 : Hid ((pre.length : Int) + 1 = (((pre ++ [(⟨(x1, x2, ⟨k, ⟨rl, rk, rkey, rval⟩, ⟨pl, pk, pp, pn, pkey⟩, ⟨ec, eb, ef, es⟩⟩), hx⟩ : PL l2.length)]).length : Nat) : Int)) := hd (by
                  rw [List.length_append, List.length_singleton]; omega)
                clear hbf
                gi_wp2
                refine region_skipIn (fun i9 v9 _ => v9 = [.int .i64 (pre.length : Int), .slice (some ⟨gw, 0, none⟩) wn2.length yc, .int .i64 (wn2.length : Int), .bool false, .bool false, .int .i64 (x1 : Int), .slice (some ⟨gw, 0, none⟩) wn2.length yc, .int .i64 (pre.length : Int), .pointer (some ⟨gw, pre.length * 16, none⟩), .pointer (some ⟨gw, pre.length * 16, none⟩), .int .i64 (x1 : Int), .bool false, .bool false, .bool false, .agg #[.int .i64 k, .int .u64 (rl : Int), .int .i64 rk, .string rkey, .string rval, .int .u64 (pl : Int), .int .i64 pk, .int .i64 pp, .int .i64 pn, .string pkey, .int .i64 ec, .int .i64 eb, .int .i64 ef, .int .u32 (es : Int)], .slice (some ⟨gw, 0, none⟩) wn2.length yc, .int .i64 (pre.length : Int), .pointer (some ⟨gw, pre.length * 16, none⟩), .pointer (some ⟨gw, pre.length * 16 + 2, none⟩), .agg #[.int .i64 kd0, .int .u64 (rl0 : Int), .int .i64 rk0, .string rkey0, .string rval0, .int .u64 (pl0 : Int), .int .i64 pk0, .int .i64 pp0, .int .i64 pn0, .string pkey0, .int .i64 ec0, .int .i64 eb0, .int .i64 ef0, .int .u32 (es0 : Int)], .bool false, .bool false].getD i9 undef) (fun w => Below U.heap.size U w) (fun _ => trivial) hmx (by kernel_rfl) (by kernel_rfl) ((Below.refl _ _).drew) (fun _ _ _ _ _ _ _ h => h) ?_ ?_
                · as_aux_lemma =>
                    intro i9 o9 ho a9 w9 hW hdf hsz hout haf
                    have ee6 := gF 6 (hout 6 (notDst_spec (by kernel_rfl)))
                    have ee9 := gF 9 (hout 9 (notDst_spec (by kernel_rfl)))
                    have ee18 := gF 18 (hout 18 (notDst_spec (by kernel_rfl)))
                    have ee19 := gF 19 (hout 19 (notDst_spec (by kernel_rfl)))
                    simp only [Array.getD_eq_getD_getElem?, List.getElem?_toArray, List.getElem?_cons_succ, List.getElem?_cons_zero, Option.getD_some] at ee6 ee9 ee18 ee19
                    have hsz2 : a9.tmps.size = 220 := hsz
                    clear hout hsz hdf
                    have zzcn := (hW.cell (p := ⟨P, 0, none⟩) hPU).trans cn
                    have zzcq := (hW.cell (p := ⟨Q, 0, none⟩) hQU).trans cq
                    have zzr0 := (hW.cell (p := ⟨gw, pre.length * 16, none⟩) hgU).trans r0
                    have zzk0 := (hW.cell (p := ⟨Bx, 0, none⟩) hBxU).trans k0
                    have zzk1 := (hW.cell (p := ⟨Bx, 1, none⟩) hBxU).trans k1
                    have zzk2 := (hW.cell (p := ⟨Bx, 2, none⟩) hBxU).trans k2
                    have zzk3 := (hW.cell (p := ⟨Bx, 3, none⟩) hBxU).trans k3
                    have zzk4 := (hW.cell (p := ⟨Bx, 4, none⟩) hBxU).trans k4
                    have zzk5 := (hW.cell (p := ⟨Bx, 5, none⟩) hBxU).trans k5
                    have zzk6 := (hW.cell (p := ⟨Bx, 6, none⟩) hBxU).trans k6
                    have zzk7 := (hW.cell (p := ⟨Bx, 7, none⟩) hBxU).trans k7
                    have zzk8 := (hW.cell (p := ⟨Bx, 8, none⟩) hBxU).trans k8
                    have zzk9 := (hW.cell (p := ⟨Bx, 9, none⟩) hBxU).trans k9
                    have zzk10 := (hW.cell (p := ⟨Bx, 10, none⟩) hBxU).trans k10
                    have zzk11 := (hW.cell (p := ⟨Bx, 11, none⟩) hBxU).trans k11
                    have zzk12 := (hW.cell (p := ⟨Bx, 12, none⟩) hBxU).trans k12
                    have zzk13 := (hW.cell (p := ⟨Bx, 13, none⟩) hBxU).trans k13
                    have zzr2 := (hW.cell (p := ⟨gw, pre.length * 16 + 2, none⟩) hgU).trans r2
                    have zzr3 := (hW.cell (p := ⟨gw, pre.length * 16 + 3, none⟩) hgU).trans r3
                    have zzr4 := (hW.cell (p := ⟨gw, pre.length * 16 + 4, none⟩) hgU).trans r4
                    have zzr5 := (hW.cell (p := ⟨gw, pre.length * 16 + 5, none⟩) hgU).trans r5
                    have zzr6 := (hW.cell (p := ⟨gw, pre.length * 16 + 6, none⟩) hgU).trans r6
                    have zzr7 := (hW.cell (p := ⟨gw, pre.length * 16 + 7, none⟩) hgU).trans r7
                    have zzr8 := (hW.cell (p := ⟨gw, pre.length * 16 + 8, none⟩) hgU).trans r8
                    have zzr9 := (hW.cell (p := ⟨gw, pre.length * 16 + 9, none⟩) hgU).trans r9
                    have zzr10 := (hW.cell (p := ⟨gw, pre.length * 16 + 10, none⟩) hgU).trans r10
                    have zzr11 := (hW.cell (p := ⟨gw, pre.length * 16 + 11, none⟩) hgU).trans r11
                    have zzr12 := (hW.cell (p := ⟨gw, pre.length * 16 + 12, none⟩) hgU).trans r12
                    have zzr13 := (hW.cell (p := ⟨gw, pre.length * 16 + 13, none⟩) hgU).trans r13
                    have zzr14 := (hW.cell (p := ⟨gw, pre.length * 16 + 14, none⟩) hgU).trans r14
                    have zzr15 := (hW.cell (p := ⟨gw, pre.length * 16 + 15, none⟩) hgU).trans r15
                    refine (match i9, ho, haf with | 0, ho, haf => ?_ | 1, ho, haf => ?_ | 2, ho, haf => ?_ | 3, ho, haf => ?_ | 4, ho, haf => ?_ | 5, ho, haf => ?_ | 6, ho, haf => ?_ | 7, ho, haf => ?_ | 8, ho, haf => ?_ | 9, ho, haf => ?_ | 10, ho, haf => ?_ | 11, ho, haf => ?_ | 12, ho, haf => ?_ | 13, ho, haf => ?_ | 14, ho, haf => ?_ | 15, ho, haf => ?_ | 16, ho, haf => ?_ | 17, ho, haf => ?_ | 18, ho, haf => ?_ | 19, ho, haf => ?_ | 20, ho, haf => ?_ | 21, ho, haf => ?_ | n + 22, ho, haf => absurd ho (by simp))
                    all_goals obtain rfl := Option.some.inj ho
                    refine skip_goodIn _ (wanted_none rfl) ?_; rotate_left
                    refine skip_goodIn _ (wanted_none rfl) ?_; rotate_left
                    have f1 := gF 155 (haf ⟨1, .data⟩ (by simp) rfl); refine skip_goodIn _ (wanted_none rfl) ?_; rotate_left
                    have f0 := gF 154 (haf ⟨0, .data⟩ (by simp) rfl); have f2 := gF 156 (haf ⟨2, .data⟩ (by simp) rfl); refine skip_goodIn _ (wanted_none rfl) ?_; rotate_left
                    have f3 := gF 157 (haf ⟨3, .data⟩ (by simp) rfl); refine skip_goodIn _ (wanted_none rfl) ?_; rotate_left
                    refine skip_goodIn _ (wanted_some rfl (yielded_of (d := 158) rfl (by omega) (haf ⟨4, .guard⟩ (by simp) rfl))) ?_; rotate_left
                    refine skip_goodIn _ (wanted_some rfl (yielded_of (d := 158) rfl (by omega) (haf ⟨4, .guard⟩ (by simp) rfl))) ?_; rotate_left
                    refine skip_goodIn _ (wanted_some rfl (yielded_of (d := 158) rfl (by omega) (haf ⟨4, .guard⟩ (by simp) rfl))) ?_; rotate_left
                    have f6 := gF 160 (haf ⟨6, .data⟩ (by simp) rfl); have f7 := gF 161 (haf ⟨7, .data⟩ (by simp) rfl); refine skip_goodIn _ (wanted_some rfl (yielded_of (d := 158) rfl (by omega) (haf ⟨4, .guard⟩ (by simp) rfl))) ?_; rotate_left
                    have f8 := gF 162 (haf ⟨8, .data⟩ (by simp) rfl); refine skip_goodIn _ (wanted_some rfl (yielded_of (d := 158) rfl (by omega) (haf ⟨4, .guard⟩ (by simp) rfl))) ?_; rotate_left
                    have f9 := gF 163 (haf ⟨9, .data⟩ (by simp) rfl); refine skip_goodIn _ (wanted_some rfl (yielded_of (d := 158) rfl (by omega) (haf ⟨4, .guard⟩ (by simp) rfl))) ?_; rotate_left
                    have f5 := gF 159 (haf ⟨5, .data⟩ (by simp) rfl); have f10 := gF 164 (haf ⟨10, .data⟩ (by simp) rfl); refine skip_goodIn _ (wanted_some rfl (yielded_of (d := 158) rfl (by omega) (haf ⟨4, .guard⟩ (by simp) rfl))) ?_; rotate_left
                    have f4 := gF 158 (haf ⟨4, .data⟩ (by simp) rfl); have f11 := gF 165 (haf ⟨11, .data⟩ (by simp) rfl); refine skip_goodIn _ (wanted_none rfl) ?_; rotate_left
                    have f12 := gF 166 (haf ⟨12, .data⟩ (by simp) rfl); refine skip_goodIn _ (wanted_none rfl) ?_; rotate_left
                    refine skip_goodIn _ (wanted_some rfl (yielded_of (d := 167) rfl (by omega) (haf ⟨13, .guard⟩ (by simp) rfl))) ?_; rotate_left
                    refine skip_goodIn _ (wanted_some rfl (yielded_of (d := 167) rfl (by omega) (haf ⟨13, .guard⟩ (by simp) rfl))) ?_; rotate_left
                    refine skip_goodIn _ (wanted_some rfl (yielded_of (d := 167) rfl (by omega) (haf ⟨13, .guard⟩ (by simp) rfl))) ?_; rotate_left
                    have f15 := gF 169 (haf ⟨15, .data⟩ (by simp) rfl); have f16 := gF 170 (haf ⟨16, .data⟩ (by simp) rfl); refine skip_goodIn _ (wanted_some rfl (yielded_of (d := 167) rfl (by omega) (haf ⟨13, .guard⟩ (by simp) rfl))) ?_; rotate_left
                    have f17 := gF 171 (haf ⟨17, .data⟩ (by simp) rfl); refine skip_goodIn _ (wanted_some rfl (yielded_of (d := 167) rfl (by omega) (haf ⟨13, .guard⟩ (by simp) rfl))) ?_; rotate_left
                    have f18 := gF 172 (haf ⟨18, .data⟩ (by simp) rfl); refine skip_goodIn _ (wanted_some rfl (yielded_of (d := 167) rfl (by omega) (haf ⟨13, .guard⟩ (by simp) rfl))) ?_; rotate_left
                    have f14 := gF 168 (haf ⟨14, .data⟩ (by simp) rfl); have f19 := gF 173 (haf ⟨19, .data⟩ (by simp) rfl); refine skip_goodIn _ (wanted_some rfl (yielded_of (d := 167) rfl (by omega) (haf ⟨13, .guard⟩ (by simp) rfl))) ?_; rotate_left
                    have f13 := gF 167 (haf ⟨13, .data⟩ (by simp) rfl); have f20 := gF 174 (haf ⟨20, .data⟩ (by simp) rfl); refine skip_goodIn _ (wanted_none rfl) ?_; rotate_left
                    all_goals (clear haf ho hsz2; intro K hK; try simp only [List.getD_cons_succ, List.getD_cons_zero] at *; simp only [List.getElem_toArray, List.getElem_cons_succ, List.getElem_cons_zero] at hK ⊢; go_simp; first | exact hK _ _ ⟨Below.refl _ _, hW, rfl⟩ | exact hK _ _ ⟨Below.refl _ _, hW, (by simp only [Value.bool.injEq, decide_eq_false_iff_not]; omega)⟩)
                · as_aux_lemma =>
                    intro aa w9 hW hdf hsz hout hall
                    have hat := tmps_seq (lo := 154) (by kernel_rfl) (by kernel_rfl) hsz (by kernel_rfl) hout hall
                    obtain ⟨tt, dd⟩ := aa
                    simp only [List.take_succ_cons, List.take_zero, List.drop_succ_cons, List.drop_zero, List.cons_append, List.nil_append, List.length_cons, List.length_nil, Nat.reduceAdd] at hat hdf
                    subst hat hdf
                    clear hsz hout hall
                    have bnw := boxed_below HBNU.out hPU hW
                    have cnw := bnw.cell
                    have fnw := bnw.frozen
                    gi_wp2
                    rw [HW1.out]
                    refine ⟨((ko_belowF hW).trans (KeepsOthers.setCell _ _ _)).from _, (KeepS.of_below hW (fun k hk => ?_)).setCell (p := ⟨P, 0, none⟩) (fun h => ?_) _, (show Boxed (w9.setCell ⟨P, 0, none⟩ _) P _ _ from bnw.set _), ?_, (HB.out.trans (KeepS.of_below hW (fun k hk => by have := hk.1; omega))).setCell (p := ⟨P, 0, none⟩) (fun h => absurd rfl h.2) _, by have := hW.size; simp only [World.setCell, Array.size_modify] <;> omega, HXM.out⟩
                    · rcases hk with hk | hk
                      · have := hk.1; omega
                      · exact (HX.out _ hk).2
                    · rcases h with h | h
                      · exact h.2 rfl
                      · have := HXM.out _ h; have h2 : S4 ≤ P := this; omega
                    · rw [HMP.out]; exact HYES.out
            · have HNO : Hid (¬ pre.map (fun x => lcF x.1) ++ [(x1, ⟨k, ⟨rl, rk, rkey, rval⟩, ⟨pl, pk, pp, pn, pkey⟩, ⟨ec, eb, ef, es⟩⟩)] <+: wn2.map lcF) := hd (pre_snoc_no (by
                rw [HPL.out]
                intro e
                have e2 := HLC.out.symm.trans e
                injection e2 with e2
                injection e2 with e2 _
                exact hp e2.symm))
              have hpd : ((x1 : Int) != (p0 : Int)) = true := by simp; omega
              clear hbf hp
              gi_wp2
              refine region_skipIn (fun i9 v9 _ => v9 = [.int .i64 (pre.length : Int), .slice (some ⟨gw, 0, none⟩) wn2.length yc, .int .i64 (wn2.length : Int), .bool false, .bool false, .int .i64 (x1 : Int), .slice (some ⟨gw, 0, none⟩) wn2.length yc, .int .i64 (pre.length : Int), .pointer (some ⟨gw, pre.length * 16, none⟩), .pointer (some ⟨gw, pre.length * 16, none⟩), .int .i64 (p0 : Int), .bool true, .bool true, .bool true, undef, undef, undef, undef, undef, undef, undef, .bool true].getD i9 undef) (fun w => Below U.heap.size U w) (fun _ => trivial) hmx (by kernel_rfl) (by kernel_rfl) ((Below.refl _ _).drew) (fun _ _ _ _ _ _ _ h => h) ?_ ?_
              · as_aux_lemma =>
                  intro i9 o9 ho a9 w9 hW hdf hsz hout haf
                  have ee6 := gF 6 (hout 6 (notDst_spec (by kernel_rfl)))
                  have ee9 := gF 9 (hout 9 (notDst_spec (by kernel_rfl)))
                  have ee18 := gF 18 (hout 18 (notDst_spec (by kernel_rfl)))
                  simp only [Array.getD_eq_getD_getElem?, List.getElem?_toArray, List.getElem?_cons_succ, List.getElem?_cons_zero, Option.getD_some] at ee6 ee9 ee18
                  have hsz2 : a9.tmps.size = 220 := hsz
                  clear hout hsz hdf
                  have zzcn := (hW.cell (p := ⟨P, 0, none⟩) hPU).trans cn
                  have zzcq := (hW.cell (p := ⟨Q, 0, none⟩) hQU).trans cq
                  have zzr0 := (hW.cell (p := ⟨gw, pre.length * 16, none⟩) hgU).trans r0
                  refine (match i9, ho, haf with | 0, ho, haf => ?_ | 1, ho, haf => ?_ | 2, ho, haf => ?_ | 3, ho, haf => ?_ | 4, ho, haf => ?_ | 5, ho, haf => ?_ | 6, ho, haf => ?_ | 7, ho, haf => ?_ | 8, ho, haf => ?_ | 9, ho, haf => ?_ | 10, ho, haf => ?_ | 11, ho, haf => ?_ | 12, ho, haf => ?_ | 13, ho, haf => ?_ | 14, ho, haf => ?_ | 15, ho, haf => ?_ | 16, ho, haf => ?_ | 17, ho, haf => ?_ | 18, ho, haf => ?_ | 19, ho, haf => ?_ | 20, ho, haf => ?_ | 21, ho, haf => ?_ | n + 22, ho, haf => absurd ho (by simp))
                  all_goals obtain rfl := Option.some.inj ho
                  refine skip_goodIn _ (wanted_none rfl) ?_; rotate_left
                  refine skip_goodIn _ (wanted_none rfl) ?_; rotate_left
                  have f1 := gF 155 (haf ⟨1, .data⟩ (by simp) rfl); refine skip_goodIn _ (wanted_none rfl) ?_; rotate_left
                  have f0 := gF 154 (haf ⟨0, .data⟩ (by simp) rfl); have f2 := gF 156 (haf ⟨2, .data⟩ (by simp) rfl); refine skip_goodIn _ (wanted_none rfl) ?_; rotate_left
                  have f3 := gF 157 (haf ⟨3, .data⟩ (by simp) rfl); refine skip_goodIn _ (wanted_none rfl) ?_; rotate_left
                  refine skip_goodIn _ (wanted_some rfl (yielded_of (d := 158) rfl (by omega) (haf ⟨4, .guard⟩ (by simp) rfl))) ?_; rotate_left
                  refine skip_goodIn _ (wanted_some rfl (yielded_of (d := 158) rfl (by omega) (haf ⟨4, .guard⟩ (by simp) rfl))) ?_; rotate_left
                  refine skip_goodIn _ (wanted_some rfl (yielded_of (d := 158) rfl (by omega) (haf ⟨4, .guard⟩ (by simp) rfl))) ?_; rotate_left
                  have f6 := gF 160 (haf ⟨6, .data⟩ (by simp) rfl); have f7 := gF 161 (haf ⟨7, .data⟩ (by simp) rfl); refine skip_goodIn _ (wanted_some rfl (yielded_of (d := 158) rfl (by omega) (haf ⟨4, .guard⟩ (by simp) rfl))) ?_; rotate_left
                  have f8 := gF 162 (haf ⟨8, .data⟩ (by simp) rfl); refine skip_goodIn _ (wanted_some rfl (yielded_of (d := 158) rfl (by omega) (haf ⟨4, .guard⟩ (by simp) rfl))) ?_; rotate_left
                  have f9 := gF 163 (haf ⟨9, .data⟩ (by simp) rfl); refine skip_goodIn _ (wanted_some rfl (yielded_of (d := 158) rfl (by omega) (haf ⟨4, .guard⟩ (by simp) rfl))) ?_; rotate_left
                  have f5 := gF 159 (haf ⟨5, .data⟩ (by simp) rfl); have f10 := gF 164 (haf ⟨10, .data⟩ (by simp) rfl); refine skip_goodIn _ (wanted_some rfl (yielded_of (d := 158) rfl (by omega) (haf ⟨4, .guard⟩ (by simp) rfl))) ?_; rotate_left
                  have f4 := gF 158 (haf ⟨4, .data⟩ (by simp) rfl); have f11 := gF 165 (haf ⟨11, .data⟩ (by simp) rfl); refine skip_goodIn _ (wanted_none rfl) ?_; rotate_left
                  have f12 := gF 166 (haf ⟨12, .data⟩ (by simp) rfl); refine skip_goodIn _ (wanted_none rfl) ?_; rotate_left
                  · exact skip_no (b := true) rfl (yielded_of (d := 167) rfl (by omega) (haf ⟨13, .guard⟩ (by simp) rfl)) rfl
                  · exact skip_no (b := true) rfl (yielded_of (d := 167) rfl (by omega) (haf ⟨13, .guard⟩ (by simp) rfl)) rfl
                  · exact skip_no (b := true) rfl (yielded_of (d := 167) rfl (by omega) (haf ⟨13, .guard⟩ (by simp) rfl)) rfl
                  · exact skip_no (b := true) rfl (yielded_of (d := 167) rfl (by omega) (haf ⟨13, .guard⟩ (by simp) rfl)) rfl
                  · exact skip_no (b := true) rfl (yielded_of (d := 167) rfl (by omega) (haf ⟨13, .guard⟩ (by simp) rfl)) rfl
                  · exact skip_no (b := true) rfl (yielded_of (d := 167) rfl (by omega) (haf ⟨13, .guard⟩ (by simp) rfl)) rfl
                  · exact skip_no (b := true) rfl (yielded_of (d := 167) rfl (by omega) (haf ⟨13, .guard⟩ (by simp) rfl)) rfl
                  have f13 := gF 167 (haf ⟨13, .data⟩ (by simp) rfl); have f20 := gF 174 (haf ⟨20, .data⟩ (by simp) rfl); refine skip_goodIn _ (wanted_none rfl) ?_; rotate_left
                  all_goals (clear haf ho hsz2; intro K hK; try simp only [List.getD_cons_succ, List.getD_cons_zero] at *; simp only [List.getElem_toArray, List.getElem_cons_succ, List.getElem_cons_zero] at hK ⊢; go_simp; first | exact hK _ _ ⟨Below.refl _ _, hW, rfl⟩ | exact hK _ _ ⟨Below.refl _ _, hW, (by simp only [Value.bool.injEq, decide_eq_false_iff_not]; omega)⟩)
              · as_aux_lemma =>
                  intro aa w9 hW hdf hsz hout hall
                  have hat := tmps_seq (lo := 154) (by kernel_rfl) (by kernel_rfl) hsz (by kernel_rfl) hout hall
                  obtain ⟨tt, dd⟩ := aa
                  simp only [List.take_succ_cons, List.take_zero, List.drop_succ_cons, List.drop_zero, List.cons_append, List.nil_append, List.length_cons, List.length_nil, Nat.reduceAdd] at hat hdf
                  subst hat hdf
                  clear hsz hout hall
                  have brw := boxed_below HBRU.out hN1U hW
                  have cr := brw.cell
                  have fr := brw.frozen
                  gi_wp2
                  refine ⟨((ko_belowF hW).trans (KeepsOthers.setCell _ _ _)).from _, ?_⟩
                  exact ⟨rfl, (fun h => HNO.out (by rw [← HMP.out]; exact h))⟩
          · have hge : (pre.length : Int) ≥ (wn2.length : Int) := by omega
            have HNO : Hid (¬ pre.map (fun x => lcF x.1) ++ [(x1, ⟨k, ⟨rl, rk, rkey, rval⟩, ⟨pl, pk, pp, pn, pkey⟩, ⟨ec, eb, ef, es⟩⟩)] <+: wn2.map lcF) := hd (pre_snoc_no (by
              rw [HPL.out, List.getElem?_eq_none (by rw [List.length_map]; omega)]
              intro e
              cases e))
            gi_wp2
            refine region_skipIn (fun i9 v9 _ => v9 = [.int .i64 (pre.length : Int), .slice ya wn2.length yc, .int .i64 (wn2.length : Int), .bool true, .bool true, undef, undef, undef, undef, undef, undef, undef, .bool true, .bool true, undef, undef, undef, undef, undef, undef, undef, .bool true].getD i9 undef) (fun w => Below U.heap.size U w) (fun _ => trivial) hmx (by kernel_rfl) (by kernel_rfl) ((Below.refl _ _).drew) (fun _ _ _ _ _ _ _ h => h) ?_ ?_
            · as_aux_lemma =>
                intro i9 o9 ho a9 w9 hW hdf hsz hout haf
                have ee6 := gF 6 (hout 6 (notDst_spec (by kernel_rfl)))
                have ee9 := gF 9 (hout 9 (notDst_spec (by kernel_rfl)))
                simp only [Array.getD_eq_getD_getElem?, List.getElem?_toArray, List.getElem?_cons_succ, List.getElem?_cons_zero, Option.getD_some] at ee6 ee9
                have hsz2 : a9.tmps.size = 220 := hsz
                clear hout hsz hdf
                have zzcn := (hW.cell (p := ⟨P, 0, none⟩) hPU).trans cn
                have zzcq := (hW.cell (p := ⟨Q, 0, none⟩) hQU).trans cq
                refine (match i9, ho, haf with | 0, ho, haf => ?_ | 1, ho, haf => ?_ | 2, ho, haf => ?_ | 3, ho, haf => ?_ | 4, ho, haf => ?_ | 5, ho, haf => ?_ | 6, ho, haf => ?_ | 7, ho, haf => ?_ | 8, ho, haf => ?_ | 9, ho, haf => ?_ | 10, ho, haf => ?_ | 11, ho, haf => ?_ | 12, ho, haf => ?_ | 13, ho, haf => ?_ | 14, ho, haf => ?_ | 15, ho, haf => ?_ | 16, ho, haf => ?_ | 17, ho, haf => ?_ | 18, ho, haf => ?_ | 19, ho, haf => ?_ | 20, ho, haf => ?_ | 21, ho, haf => ?_ | n + 22, ho, haf => absurd ho (by simp))
                all_goals obtain rfl := Option.some.inj ho
                refine skip_goodIn _ (wanted_none rfl) ?_; rotate_left
                refine skip_goodIn _ (wanted_none rfl) ?_; rotate_left
                have f1 := gF 155 (haf ⟨1, .data⟩ (by simp) rfl); refine skip_goodIn _ (wanted_none rfl) ?_; rotate_left
                have f0 := gF 154 (haf ⟨0, .data⟩ (by simp) rfl); have f2 := gF 156 (haf ⟨2, .data⟩ (by simp) rfl); refine skip_goodIn _ (wanted_none rfl) ?_; rotate_left
                have f3 := gF 157 (haf ⟨3, .data⟩ (by simp) rfl); refine skip_goodIn _ (wanted_none rfl) ?_; rotate_left
                · exact skip_no (b := true) rfl (yielded_of (d := 158) rfl (by omega) (haf ⟨4, .guard⟩ (by simp) rfl)) rfl
                · exact skip_no (b := true) rfl (yielded_of (d := 158) rfl (by omega) (haf ⟨4, .guard⟩ (by simp) rfl)) rfl
                · exact skip_no (b := true) rfl (yielded_of (d := 158) rfl (by omega) (haf ⟨4, .guard⟩ (by simp) rfl)) rfl
                · exact skip_no (b := true) rfl (yielded_of (d := 158) rfl (by omega) (haf ⟨4, .guard⟩ (by simp) rfl)) rfl
                · exact skip_no (b := true) rfl (yielded_of (d := 158) rfl (by omega) (haf ⟨4, .guard⟩ (by simp) rfl)) rfl
                · exact skip_no (b := true) rfl (yielded_of (d := 158) rfl (by omega) (haf ⟨4, .guard⟩ (by simp) rfl)) rfl
                · exact skip_no (b := true) rfl (yielded_of (d := 158) rfl (by omega) (haf ⟨4, .guard⟩ (by simp) rfl)) rfl
                have f4 := gF 158 (haf ⟨4, .data⟩ (by simp) rfl); have f11 := gF 165 (haf ⟨11, .data⟩ (by simp) rfl); refine skip_goodIn _ (wanted_none rfl) ?_; rotate_left
                have f12 := gF 166 (haf ⟨12, .data⟩ (by simp) rfl); refine skip_goodIn _ (wanted_none rfl) ?_; rotate_left
                · exact skip_no (b := true) rfl (yielded_of (d := 167) rfl (by omega) (haf ⟨13, .guard⟩ (by simp) rfl)) rfl
                · exact skip_no (b := true) rfl (yielded_of (d := 167) rfl (by omega) (haf ⟨13, .guard⟩ (by simp) rfl)) rfl
                · exact skip_no (b := true) rfl (yielded_of (d := 167) rfl (by omega) (haf ⟨13, .guard⟩ (by simp) rfl)) rfl
                · exact skip_no (b := true) rfl (yielded_of (d := 167) rfl (by omega) (haf ⟨13, .guard⟩ (by simp) rfl)) rfl
                · exact skip_no (b := true) rfl (yielded_of (d := 167) rfl (by omega) (haf ⟨13, .guard⟩ (by simp) rfl)) rfl
                · exact skip_no (b := true) rfl (yielded_of (d := 167) rfl (by omega) (haf ⟨13, .guard⟩ (by simp) rfl)) rfl
                · exact skip_no (b := true) rfl (yielded_of (d := 167) rfl (by omega) (haf ⟨13, .guard⟩ (by simp) rfl)) rfl
                have f13 := gF 167 (haf ⟨13, .data⟩ (by simp) rfl); have f20 := gF 174 (haf ⟨20, .data⟩ (by simp) rfl); refine skip_goodIn _ (wanted_none rfl) ?_; rotate_left
                all_goals (clear haf ho hsz2; intro K hK; try simp only [List.getD_cons_succ, List.getD_cons_zero] at *; simp only [List.getElem_toArray, List.getElem_cons_succ, List.getElem_cons_zero] at hK ⊢; go_simp; first | exact hK _ _ ⟨Below.refl _ _, hW, rfl⟩ | exact hK _ _ ⟨Below.refl _ _, hW, (by simp only [Value.bool.injEq, decide_eq_true_eq]; omega)⟩)
            · as_aux_lemma =>
                intro aa w9 hW hdf hsz hout hall
                have hat := tmps_seq (lo := 154) (by kernel_rfl) (by kernel_rfl) hsz (by kernel_rfl) hout hall
                obtain ⟨tt, dd⟩ := aa
                simp only [List.take_succ_cons, List.take_zero, List.drop_succ_cons, List.drop_zero, List.cons_append, List.nil_append, List.length_cons, List.length_nil, Nat.reduceAdd] at hat hdf
                subst hat hdf
                clear hsz hout hall
                have brw := boxed_below HBRU.out hN1U hW
                have cr := brw.cell
                have fr := brw.frozen
                gi_wp2
                refine ⟨((ko_belowF hW).trans (KeepsOthers.setCell _ _ _)).from _, ?_⟩
                exact ⟨rfl, (fun h => HNO.out (by rw [← HMP.out]; exact h))⟩
      have HR := hd R
      clear R HK
      refine (wpIn_wide (n := 8)).1 ?_
      refine wpIn_rangeFunc_X (gf := 47) (lb := #[.pointer (some ⟨Q + 4, 0, none⟩)]) rfl (enters_of Try.func47 (by kernel_rfl) rfl) HSQ.out HKS.out (Below.refl _ _) (fun _ => rfl)
        (SfK S3 U) (fun (c : Code) (pre : List (PL [167, 0, 0, 0].length)) (_ : Nat → Prop) (_ : World) => c = .ret ∧ pre ≠ []) (hs3 ▸ sfK_abides) (fun _ _ _ _ _ _ h _ _ => h) ⟨KeepS.refl _, by omega, fun _ h => h.elim⟩
        (fun (x : PL [167, 0, 0, 0].length) a' _ => a' = { tmps := #[.slice a l.length c, .int .i64 z, undef, .pointer (some ⟨N, 0, none⟩), .pointer (some ⟨N + 1, 0, none⟩), .slice (some ⟨G, 0, none⟩) l.length (l.length + 8), .pointer (some ⟨Q, 0, none⟩), .pointer (some ⟨Q + 2, 0, none⟩), .func (.func 47) #[] #[.pointer (some ⟨Q + 4, 0, none⟩)], .pointer (some ⟨P, 0, none⟩), undef, undef, undef, undef, undef, undef, undef, undef, undef, undef, undef, undef, .slice a l.length c, .slice (some ⟨G, 0, none⟩) l.length (l.length + 8), .slice a l.length c, .slice xa wn.length xc, .slice (some ⟨G, 0, none⟩) l.length (l.length + 8), .func (.func 47) #[] #[.pointer (some ⟨Q + 1, 0, none⟩)], .slice (some ⟨Q + 3, 0, none⟩) 4 4, .func (.func 47) #[] #[.pointer (some ⟨Q + 4, 0, none⟩)], .func (.func 47) #[] #[.pointer (some ⟨Q + 1, 0, none⟩)], .bool false, .bool false, .func (.func 47) #[] #[.pointer (some ⟨Q + 4, 0, none⟩)], .bool false, .bool false, .func (.func 47) #[] #[.pointer (some ⟨Q + 1, 0, none⟩)], undef, undef, undef, undef, undef, undef, undef, undef, undef, undef, undef, undef, undef, undef, undef, undef, undef, undef, undef, undef, undef, undef, undef, undef, undef, undef, undef, undef, undef, u66, u67, u68, u69, u70, u71, u72, u73, u74, .func (.func 47) #[] #[.pointer (some ⟨Q + 1, 0, none⟩)], undef, undef, undef, undef, undef, undef, undef, undef, undef, undef, undef, undef, undef, undef, undef, undef, undef, undef, undef, undef, undef, undef, undef, undef, undef, undef, undef, undef, undef, undef, undef, undef, undef, undef, undef, undef, undef, undef, undef, undef, undef, undef, undef, undef, undef, undef, undef, undef, undef, undef, undef, undef, undef, undef, undef, undef, undef, undef, undef, .func (.func 47) #[] #[.pointer (some ⟨Q + 4, 0, none⟩)], .int .i64 (x.1.1 : Int), .agg (frv x.1.2.2).toArray, undef, undef, undef, undef, undef, undef, undef, undef, undef, undef, undef, undef, undef, undef, undef, undef, undef, undef, undef, undef, undef, undef, undef, undef, undef, undef, undef, undef, undef, undef, undef, undef, undef, undef, undef, undef, undef, undef, undef, undef, undef, undef, undef, undef, undef, undef, undef, undef, undef, undef, undef, undef, undef, undef, undef, undef, undef, undef, undef, undef, undef, undef, undef, undef, undef, undef, undef, undef, undef, undef, undef, undef, undef, undef, undef, undef, undef, undef, undef, undef, undef, undef], defers := [] })
        (fun x a' _ V V' row hs hg hr => hs)
        ?assign4 ?body4 ?done4 ?stop4
      case assign4 =>
        rintro lk pre ⟨⟨x1, x2, f⟩, hx⟩ X V K hi hX hK
        gi_wp2
        exact hK _ _ ((KeepsOthers.refl _).from _) (KeepS.refl _) hi rfl
      case stop4 =>
        rintro D3 c2 pre X Z hD3 hp ⟨rfl, hj⟩ hKD4
        exfalso
        apply hj
        rw [beside_locs] at hp
        have := hp.length_le
        rw [List.length_map] at this
        exact List.eq_nil_of_length_eq_zero (by simpa using this)
      case done4 =>
        rintro D3 ys X Z hD3 hys ⟨h1, h2, h3⟩ hKD4
        gi_wp2
        exact HR.out D3 Z (by omega) h1 hKD4
      case body4 =>
        rintro lk pre x X a' Z hlk hlp hX ⟨h1, h2, h3⟩ rfl hlen
        have brz := boxed_keepS BRU.out (show N + 1 < S3 by omega) h1
        have cr := brz.cell
        have fr := brz.frozen
        gi_wp2
        exact ⟨(KeepsOthers.setCell _ _ _).from _, rfl, by simp⟩
    have HR := hd R
    clear R HK
    refine (wpIn_wide (n := 8)).1 ?_
    refine wpIn_rangeFunc_X (gf := 47) (lb := #[.pointer (some ⟨Q + 1, 0, none⟩)]) rfl (enters_of Try.func47 (by kernel_rfl) rfl) HSQ.out HKS.out (Below.refl _ _) (fun _ => rfl)
      (SfJ P S2 V2 (wn.map lcF)) (fun c (pre : List (PL l.length)) _ _ => c = .ret ∧ ¬ pre.map (fun x => lcF x.1) <+: wn.map lcF) (hs2 ▸ sfJ_abides (by omega)) (fun _ _ _ _ _ _ h _ _ => h) ⟨BN2.out, List.nil_prefix, KeepS.refl _, by omega, fun _ h => h.elim⟩
      (fun (x : PL l.length) a' U => ∃ Bx, S2 ≤ Bx ∧ Blk U Bx 41 (frv x.1.2.2) ∧ a' = { tmps := #[.slice a l.length c, .int .i64 z, undef, .pointer (some ⟨N, 0, none⟩), .pointer (some ⟨N + 1, 0, none⟩), .slice (some ⟨G, 0, none⟩) l.length (l.length + 8), .pointer (some ⟨Q, 0, none⟩), .pointer (some ⟨Q + 2, 0, none⟩), .func (.func 47) #[] #[.pointer (some ⟨Q + 4, 0, none⟩)], .pointer (some ⟨P, 0, none⟩), undef, undef, .int .i64 (x.1.1 : Int), .pointer (some ⟨Bx, 0, none⟩), undef, undef, undef, undef, undef, undef, undef, undef, .slice a l.length c, .slice (some ⟨G, 0, none⟩) l.length (l.length + 8), .slice a l.length c, .slice xa wn.length xc, .slice (some ⟨G, 0, none⟩) l.length (l.length + 8), .func (.func 47) #[] #[.pointer (some ⟨Q + 1, 0, none⟩)], .slice (some ⟨Q + 3, 0, none⟩) 4 4, .func (.func 47) #[] #[.pointer (some ⟨Q + 4, 0, none⟩)], .func (.func 47) #[] #[.pointer (some ⟨Q + 1, 0, none⟩)], .bool false, .bool false, .func (.func 47) #[] #[.pointer (some ⟨Q + 4, 0, none⟩)], .bool false, .bool false, .func (.func 47) #[] #[.pointer (some ⟨Q + 1, 0, none⟩)], undef, undef, undef, undef, undef, undef, undef, undef, undef, undef, undef, undef, undef, undef, undef, undef, undef, undef, undef, undef, undef, undef, undef, undef, undef, undef, undef, undef, undef, u66, u67, u68, u69, u70, u71, u72, u73, u74, .func (.func 47) #[] #[.pointer (some ⟨Q + 1, 0, none⟩)], .int .i64 (x.1.1 : Int), .agg (frv x.1.2.2).toArray, undef, undef, undef, undef, undef, undef, undef, undef, undef, undef, undef, undef, undef, undef, undef, undef, undef, undef, undef, undef, undef, undef, undef, undef, undef, undef, undef, undef, undef, undef, undef, undef, undef, undef, undef, undef, undef, undef, undef, undef, undef, undef, undef, undef, undef, undef, undef, undef, undef, undef, undef, undef, undef, undef, undef, undef, undef, undef, undef, undef, undef, undef, undef, undef, undef, undef, undef, undef, undef, undef, undef, undef, undef, undef, undef, undef, undef, undef, undef, undef, undef, undef, undef, undef, undef, undef, undef, undef, undef, undef, undef, undef, undef, undef, undef, undef, undef, undef, undef, undef, undef, undef, undef, undef, undef, undef, undef, undef, undef, undef, undef, undef, undef, undef, undef, undef, undef, undef, undef, undef, undef, undef, undef, undef, undef, undef, undef, undef, undef, undef, undef, undef, undef, undef, undef, undef, undef, undef, undef, undef, undef, undef], defers := [] })
      (fun x a' _ V V' row hs hg hr => by
        obtain ⟨Bx, h1, h2, h3⟩ := hs
        exact ⟨Bx, by omega, blkQ_kept h2 hg (fun r e => (hr r e).2), h3⟩)
      ?assign2 ?body2 ?done2 ?stop2
    case assign2 =>
      rintro lk pre ⟨⟨x1, x2, k, ⟨rl, rk, rkey, rval⟩, ⟨pl, pk, pa', pn, pkey⟩, ⟨ec, eb, ef, es⟩⟩, hx⟩ X V K hi hX hK
      simp only [enc2, frv]
      gi_wp2
      have hsV := hi.2.2.2.1
      exact hK _ _ ((KeepsOthers.alloc _ _).from _) ((KeepS.refl _).alloc (fun k hk => by rcases hk with hk | hk; have := hk.1; omega; exact (hX k hk).2) _) (sfJ_abides (by omega) pre X X _ _ hi (Turned.alloc _ _) (fun _ h => .inl h)) ⟨V.heap.size, by omega, Blk.new V 41 (frv ⟨k, ⟨rl, rk, rkey, rval⟩, ⟨pl, pk, pa', pn, pkey⟩, ⟨ec, eb, ef, es⟩⟩), rfl⟩
    case stop2 =>
      rintro D2 c2 pre X U hD hp ⟨rfl, hj⟩ hKD2
      exfalso
      apply hj
      obtain ⟨r, hr⟩ := hp
      refine ⟨r.map lcF, ?_⟩
      rw [HWN.out, ← hr, List.map_append, List.map_map]
      rfl
    case done2 =>
      rintro D2 ys X U hD hys ⟨bn, hpre, hB, hsU, hXM⟩ hKD2
      gi_wp2
      have hyl : ys.length = wn.length := by rw [HWN.out, ← hys, List.length_map]
      rw [hyl] at bn
      exact HR.out D2 U (by omega) bn hB hsU hKD2
    case body2 =>
      have BWV := BW2
      have BRV := BR2
      have BAV := BA2
      have JV := J2
      have HWV : Hid (∀ g, (Value.slice xa wn.length xc).ownBlock = some g → ButP P S2 g) := fun g hg => ⟨by have := HWQ.out g hg; omega, by have := HWQ.out g hg; omega⟩
      rintro lk pre ⟨⟨x1, x2, f⟩, hx⟩ X a' U hlk hlp hX ⟨bn, hpre, hB, hsU, hXM⟩ ⟨Bx, hBx, hblk, rfl⟩ hlen
      obtain ⟨k, ⟨rl, rk, rkey, rval⟩, ⟨pl, pk, pp, pn, pkey⟩, ⟨ec, eb, ef, es⟩⟩ := f
      have hblk : Blk U Bx 41 [.int .i64 k, .int .u64 (rl : Int), .int .i64 rk, .string rkey, .string rval, .int .u64 (pl : Int), .int .i64 pk, .int .i64 pp, .int .i64 pn, .string pkey, .int .i64 ec, .int .i64 eb, .int .i64 ef, .int .u32 (es : Int)] := hblk
      have hBxU : Bx < U.heap.size := (Array.getElem?_eq_some_iff.1 hblk).1
      have k0 := hblk.cell 0 _ rfl
      have k1 := hblk.cell 1 _ rfl
      have k2 := hblk.cell 2 _ rfl
      have k3 := hblk.cell 3 _ rfl
      have k4 := hblk.cell 4 _ rfl
      have k5 := hblk.cell 5 _ rfl
      have k6 := hblk.cell 6 _ rfl
      have k7 := hblk.cell 7 _ rfl
      have k8 := hblk.cell 8 _ rfl
      have k9 := hblk.cell 9 _ rfl
      have k10 := hblk.cell 10 _ rfl
      have k11 := hblk.cell 11 _ rfl
      have k12 := hblk.cell 12 _ rfl
      have k13 := hblk.cell 13 _ rfl
      have cn := bn.cell
      have cq := (boxed_keepS BWV.out ⟨by omega, by omega⟩ hB).cell
      have hPU : P < U.heap.size := by omega
      have hQU : Q < U.heap.size := by omega
      have hN1U : N + 1 < U.heap.size := by omega
      have HMP : Hid ((pre ++ [(⟨(x1, x2, ⟨k, ⟨rl, rk, rkey, rval⟩, ⟨pl, pk, pp, pn, pkey⟩, ⟨ec, eb, ef, es⟩⟩), hx⟩ : PL l.length)]).map (fun x => lcF x.1) = pre.map (fun x => lcF x.1) ++ [(x1, ⟨k, ⟨rl, rk, rkey, rval⟩, ⟨pl, pk, pp, pn, pkey⟩, ⟨ec, eb, ef, es⟩⟩)]) := by
        show _ = _
        rw [List.map_append, List.map_singleton]
        rfl
      have HPL : Hid ((pre.map (fun x => lcF x.1)).length = pre.length) := List.length_map _
      have HPRE := hd hpre
      have HB := hd hB
      have HBNU := hd bn
      have HBRU := hd (boxed_keepS BRV.out ⟨by omega, by omega⟩ hB)
      have HJU := hd (JV.out.keepS (fun g hg => HWV.out g hg) hB)
      have HXM := hd hXM
      have HX := hd hX
      clear hpre hB bn hXM hX
      by_cases hlt : pre.length < wn.length
      · have hge : ¬ ((pre.length : Int) ≥ (wn.length : Int)) := by omega
        obtain ⟨⟨p0, n0, kd0, ⟨rl0, rk0, rkey0, rval0⟩, ⟨pl0, pk0, pp0, pn0, pkey0⟩, ⟨ec0, eb0, ef0, es0⟩⟩, hlc⟩ : ∃ x, wn[pre.length]? = some x := ⟨_, List.getElem?_eq_getElem hlt⟩
        have hxm : (wn.map fov)[pre.length]? = some [.int .i64 (p0 : Int), .int .i64 (n0 : Int), .int .i64 kd0, .int .u64 (rl0 : Int), .int .i64 rk0, .string rkey0, .string rval0, .int .u64 (pl0 : Int), .int .i64 pk0, .int .i64 pp0, .int .i64 pn0, .string pkey0, .int .i64 ec0, .int .i64 eb0, .int .i64 ef0, .int .u32 (es0 : Int)] := by rw [List.getElem?_map, hlc]; rfl
        obtain ⟨gw, cv', hv1, hg1, hm1⟩ := HJU.out.nn (by intro e; rw [e] at hxm; simp at hxm)
        injection hv1 with e1 e2 e3
        subst e1
        have hgU : gw < U.heap.size := HJU.out.blk_lt gw rfl
        have r0 := HJU.out.at pre.length _ 0 _ hxm rfl
        rw [Nat.add_zero] at r0
        have r2 := HJU.out.at pre.length _ 2 _ hxm rfl
        have r3 := HJU.out.at pre.length _ 3 _ hxm rfl
        have r4 := HJU.out.at pre.length _ 4 _ hxm rfl
        have r5 := HJU.out.at pre.length _ 5 _ hxm rfl
        have r6 := HJU.out.at pre.length _ 6 _ hxm rfl
        have r7 := HJU.out.at pre.length _ 7 _ hxm rfl
        have r8 := HJU.out.at pre.length _ 8 _ hxm rfl
        have r9 := HJU.out.at pre.length _ 9 _ hxm rfl
        have r10 := HJU.out.at pre.length _ 10 _ hxm rfl
        have r11 := HJU.out.at pre.length _ 11 _ hxm rfl
        have r12 := HJU.out.at pre.length _ 12 _ hxm rfl
        have r13 := HJU.out.at pre.length _ 13 _ hxm rfl
        have r14 := HJU.out.at pre.length _ 14 _ hxm rfl
        have r15 := HJU.out.at pre.length _ 15 _ hxm rfl
        have HLC : Hid ((wn.map lcF)[pre.length]? = some (p0, ⟨kd0, ⟨rl0, rk0, rkey0, rval0⟩, ⟨pl0, pk0, pp0, pn0, pkey0⟩, ⟨ec0, eb0, ef0, es0⟩⟩)) := by
          show _ = _
          rw [List.getElem?_map, hlc]; rfl
        obtain ⟨bb, hbb, hbf⟩ := neq_any ⟨k, ⟨rl, rk, rkey, rval⟩, ⟨pl, pk, pp, pn, pkey⟩, ⟨ec, eb, ef, es⟩⟩ ⟨kd0, ⟨rl0, rk0, rkey0, rval0⟩, ⟨pl0, pk0, pp0, pn0, pkey0⟩, ⟨ec0, eb0, ef0, es0⟩⟩
        have heq : ∀ w, (binOp .neq 41 (.agg #[.int .i64 k, .int .u64 (rl : Int), .int .i64 rk, .string rkey, .string rval, .int .u64 (pl : Int), .int .i64 pk, .int .i64 pp, .int .i64 pn, .string pkey, .int .i64 ec, .int .i64 eb, .int .i64 ef, .int .u32 (es : Int)]) (.agg #[.int .i64 kd0, .int .u64 (rl0 : Int), .int .i64 rk0, .string rkey0, .string rval0, .int .u64 (pl0 : Int), .int .i64 pk0, .int .i64 pp0, .int .i64 pn0, .string pkey0, .int .i64 ec0, .int .i64 eb0, .int .i64 ef0, .int .u32 (es0 : Int)])).run Try.prog w = .ok (.bool bb) w := hbb
        clear hbb hlc hxm hg1 hm1 e2 e3
        by_cases hp : x1 = p0
        · subst hp
          cases bb with
          | true =>
            have HNO : Hid (¬ pre.map (fun x => lcF x.1) ++ [(x1, ⟨k, ⟨rl, rk, rkey, rval⟩, ⟨pl, pk, pp, pn, pkey⟩, ⟨ec, eb, ef, es⟩⟩)] <+: wn.map lcF) := hd (pre_snoc_no (by
              rw [HPL.out]
              intro e
              have e2 := HLC.out.symm.trans e
              injection e2 with e2
              injection e2 with _ e2
              have := hbf.2 e2.symm
              cases this))
            clear hbf
            gi_wp2
            refine region_skipIn (fun i9 v9 _ => v9 = [.int .i64 (pre.length : Int), .slice (some ⟨gw, 0, none⟩) wn.length xc, .int .i64 (wn.length : Int), .bool false, .bool false, .int .i64 (x1 : Int), .slice (some ⟨gw, 0, none⟩) wn.length xc, .int .i64 (pre.length : Int), .pointer (some ⟨gw, pre.length * 16, none⟩), .pointer (some ⟨gw, pre.length * 16, none⟩), .int .i64 (x1 : Int), .bool false, .bool false, .bool false, .agg #[.int .i64 k, .int .u64 (rl : Int), .int .i64 rk, .string rkey, .string rval, .int .u64 (pl : Int), .int .i64 pk, .int .i64 pp, .int .i64 pn, .string pkey, .int .i64 ec, .int .i64 eb, .int .i64 ef, .int .u32 (es : Int)], .slice (some ⟨gw, 0, none⟩) wn.length xc, .int .i64 (pre.length : Int), .pointer (some ⟨gw, pre.length * 16, none⟩), .pointer (some ⟨gw, pre.length * 16 + 2, none⟩), .agg #[.int .i64 kd0, .int .u64 (rl0 : Int), .int .i64 rk0, .string rkey0, .string rval0, .int .u64 (pl0 : Int), .int .i64 pk0, .int .i64 pp0, .int .i64 pn0, .string pkey0, .int .i64 ec0, .int .i64 eb0, .int .i64 ef0, .int .u32 (es0 : Int)], .bool true, .bool true].getD i9 undef) (fun w => Below U.heap.size U w) (fun _ => trivial) hmx (by kernel_rfl) (by kernel_rfl) ((Below.refl _ _).drew) (fun _ _ _ _ _ _ _ h => h) ?_ ?_
            · as_aux_lemma =>
                intro i9 o9 ho a9 w9 hW hdf hsz hout haf
                have ee6 := gF 6 (hout 6 (notDst_spec (by kernel_rfl)))
                have ee9 := gF 9 (hout 9 (notDst_spec (by kernel_rfl)))
                have ee12 := gF 12 (hout 12 (notDst_spec (by kernel_rfl)))
                have ee13 := gF 13 (hout 13 (notDst_spec (by kernel_rfl)))
                simp only [Array.getD_eq_getD_getElem?, List.getElem?_toArray, List.getElem?_cons_succ, List.getElem?_cons_zero, Option.getD_some] at ee6 ee9 ee12 ee13
                have hsz2 : a9.tmps.size = 220 := hsz
                clear hout hsz hdf
                have zzcn := (hW.cell (p := ⟨P, 0, none⟩) hPU).trans cn
                have zzcq := (hW.cell (p := ⟨Q, 0, none⟩) hQU).trans cq
                have zzr0 := (hW.cell (p := ⟨gw, pre.length * 16, none⟩) hgU).trans r0
                have zzk0 := (hW.cell (p := ⟨Bx, 0, none⟩) hBxU).trans k0
                have zzk1 := (hW.cell (p := ⟨Bx, 1, none⟩) hBxU).trans k1
                have zzk2 := (hW.cell (p := ⟨Bx, 2, none⟩) hBxU).trans k2
                have zzk3 := (hW.cell (p := ⟨Bx, 3, none⟩) hBxU).trans k3
                have zzk4 := (hW.cell (p := ⟨Bx, 4, none⟩) hBxU).trans k4
                have zzk5 := (hW.cell (p := ⟨Bx, 5, none⟩) hBxU).trans k5
                have zzk6 := (hW.cell (p := ⟨Bx, 6, none⟩) hBxU).trans k6
                have zzk7 := (hW.cell (p := ⟨Bx, 7, none⟩) hBxU).trans k7
                have zzk8 := (hW.cell (p := ⟨Bx, 8, none⟩) hBxU).trans k8
                have zzk9 := (hW.cell (p := ⟨Bx, 9, none⟩) hBxU).trans k9
                have zzk10 := (hW.cell (p := ⟨Bx, 10, none⟩) hBxU).trans k10
                have zzk11 := (hW.cell (p := ⟨Bx, 11, none⟩) hBxU).trans k11
                have zzk12 := (hW.cell (p := ⟨Bx, 12, none⟩) hBxU).trans k12
                have zzk13 := (hW.cell (p := ⟨Bx, 13, none⟩) hBxU).trans k13
                have zzr2 := (hW.cell (p := ⟨gw, pre.length * 16 + 2, none⟩) hgU).trans r2
                have zzr3 := (hW.cell (p := ⟨gw, pre.length * 16 + 3, none⟩) hgU).trans r3
                have zzr4 := (hW.cell (p := ⟨gw, pre.length * 16 + 4, none⟩) hgU).trans r4
                have zzr5 := (hW.cell (p := ⟨gw, pre.length * 16 + 5, none⟩) hgU).trans r5
                have zzr6 := (hW.cell (p := ⟨gw, pre.length * 16 + 6, none⟩) hgU).trans r6
                have zzr7 := (hW.cell (p := ⟨gw, pre.length * 16 + 7, none⟩) hgU).trans r7
                have zzr8 := (hW.cell (p := ⟨gw, pre.length * 16 + 8, none⟩) hgU).trans r8
                have zzr9 := (hW.cell (p := ⟨gw, pre.length * 16 + 9, none⟩) hgU).trans r9
                have zzr10 := (hW.cell (p := ⟨gw, pre.length * 16 + 10, none⟩) hgU).trans r10
                have zzr11 := (hW.cell (p := ⟨gw, pre.length * 16 + 11, none⟩) hgU).trans r11
                have zzr12 := (hW.cell (p := ⟨gw, pre.length * 16 + 12, none⟩) hgU).trans r12
                have zzr13 := (hW.cell (p := ⟨gw, pre.length * 16 + 13, none⟩) hgU).trans r13
                have zzr14 := (hW.cell (p := ⟨gw, pre.length * 16 + 14, none⟩) hgU).trans r14
                have zzr15 := (hW.cell (p := ⟨gw, pre.length * 16 + 15, none⟩) hgU).trans r15
                refine (match i9, ho, haf with | 0, ho, haf => ?_ | 1, ho, haf => ?_ | 2, ho, haf => ?_ | 3, ho, haf => ?_ | 4, ho, haf => ?_ | 5, ho, haf => ?_ | 6, ho, haf => ?_ | 7, ho, haf => ?_ | 8, ho, haf => ?_ | 9, ho, haf => ?_ | 10, ho, haf => ?_ | 11, ho, haf => ?_ | 12, ho, haf => ?_ | 13, ho, haf => ?_ | 14, ho, haf => ?_ | 15, ho, haf => ?_ | 16, ho, haf => ?_ | 17, ho, haf => ?_ | 18, ho, haf => ?_ | 19, ho, haf => ?_ | 20, ho, haf => ?_ | 21, ho, haf => ?_ | n + 22, ho, haf => absurd ho (by simp))
                all_goals obtain rfl := Option.some.inj ho
                refine skip_goodIn _ (wanted_none rfl) ?_; rotate_left
                refine skip_goodIn _ (wanted_none rfl) ?_; rotate_left
                have f1 := gF 79 (haf ⟨1, .data⟩ (by simp) rfl); refine skip_goodIn _ (wanted_none rfl) ?_; rotate_left
                have f0 := gF 78 (haf ⟨0, .data⟩ (by simp) rfl); have f2 := gF 80 (haf ⟨2, .data⟩ (by simp) rfl); refine skip_goodIn _ (wanted_none rfl) ?_; rotate_left
                have f3 := gF 81 (haf ⟨3, .data⟩ (by simp) rfl); refine skip_goodIn _ (wanted_none rfl) ?_; rotate_left
                refine skip_goodIn _ (wanted_some rfl (yielded_of (d := 82) rfl (by omega) (haf ⟨4, .guard⟩ (by simp) rfl))) ?_; rotate_left
                refine skip_goodIn _ (wanted_some rfl (yielded_of (d := 82) rfl (by omega) (haf ⟨4, .guard⟩ (by simp) rfl))) ?_; rotate_left
                refine skip_goodIn _ (wanted_some rfl (yielded_of (d := 82) rfl (by omega) (haf ⟨4, .guard⟩ (by simp) rfl))) ?_; rotate_left
                have f6 := gF 84 (haf ⟨6, .data⟩ (by simp) rfl); have f7 := gF 85 (haf ⟨7, .data⟩ (by simp) rfl); refine skip_goodIn _ (wanted_some rfl (yielded_of (d := 82) rfl (by omega) (haf ⟨4, .guard⟩ (by simp) rfl))) ?_; rotate_left
                have f8 := gF 86 (haf ⟨8, .data⟩ (by simp) rfl); refine skip_goodIn _ (wanted_some rfl (yielded_of (d := 82) rfl (by omega) (haf ⟨4, .guard⟩ (by simp) rfl))) ?_; rotate_left
                have f9 := gF 87 (haf ⟨9, .data⟩ (by simp) rfl); refine skip_goodIn _ (wanted_some rfl (yielded_of (d := 82) rfl (by omega) (haf ⟨4, .guard⟩ (by simp) rfl))) ?_; rotate_left
                have f5 := gF 83 (haf ⟨5, .data⟩ (by simp) rfl); have f10 := gF 88 (haf ⟨10, .data⟩ (by simp) rfl); refine skip_goodIn _ (wanted_some rfl (yielded_of (d := 82) rfl (by omega) (haf ⟨4, .guard⟩ (by simp) rfl))) ?_; rotate_left
                have f4 := gF 82 (haf ⟨4, .data⟩ (by simp) rfl); have f11 := gF 89 (haf ⟨11, .data⟩ (by simp) rfl); refine skip_goodIn _ (wanted_none rfl) ?_; rotate_left
                have f12 := gF 90 (haf ⟨12, .data⟩ (by simp) rfl); refine skip_goodIn _ (wanted_none rfl) ?_; rotate_left
                refine skip_goodIn _ (wanted_some rfl (yielded_of (d := 91) rfl (by omega) (haf ⟨13, .guard⟩ (by simp) rfl))) ?_; rotate_left
                refine skip_goodIn _ (wanted_some rfl (yielded_of (d := 91) rfl (by omega) (haf ⟨13, .guard⟩ (by simp) rfl))) ?_; rotate_left
                refine skip_goodIn _ (wanted_some rfl (yielded_of (d := 91) rfl (by omega) (haf ⟨13, .guard⟩ (by simp) rfl))) ?_; rotate_left
                have f15 := gF 93 (haf ⟨15, .data⟩ (by simp) rfl); have f16 := gF 94 (haf ⟨16, .data⟩ (by simp) rfl); refine skip_goodIn _ (wanted_some rfl (yielded_of (d := 91) rfl (by omega) (haf ⟨13, .guard⟩ (by simp) rfl))) ?_; rotate_left
                have f17 := gF 95 (haf ⟨17, .data⟩ (by simp) rfl); refine skip_goodIn _ (wanted_some rfl (yielded_of (d := 91) rfl (by omega) (haf ⟨13, .guard⟩ (by simp) rfl))) ?_; rotate_left
                have f18 := gF 96 (haf ⟨18, .data⟩ (by simp) rfl); refine skip_goodIn _ (wanted_some rfl (yielded_of (d := 91) rfl (by omega) (haf ⟨13, .guard⟩ (by simp) rfl))) ?_; rotate_left
                have f14 := gF 92 (haf ⟨14, .data⟩ (by simp) rfl); have f19 := gF 97 (haf ⟨19, .data⟩ (by simp) rfl); refine skip_goodIn _ (wanted_some rfl (yielded_of (d := 91) rfl (by omega) (haf ⟨13, .guard⟩ (by simp) rfl))) ?_; rotate_left
                have f13 := gF 91 (haf ⟨13, .data⟩ (by simp) rfl); have f20 := gF 98 (haf ⟨20, .data⟩ (by simp) rfl); refine skip_goodIn _ (wanted_none rfl) ?_; rotate_left
                all_goals (clear haf ho hsz2; intro K hK; try simp only [List.getD_cons_succ, List.getD_cons_zero] at *; simp only [List.getElem_toArray, List.getElem_cons_succ, List.getElem_cons_zero] at hK ⊢; go_simp; first | exact hK _ _ ⟨Below.refl _ _, hW, rfl⟩ | exact hK _ _ ⟨Below.refl _ _, hW, (by simp only [Value.bool.injEq, decide_eq_false_iff_not]; omega)⟩)
            · as_aux_lemma =>
                intro aa w9 hW hdf hsz hout hall
                have hat := tmps_seq (lo := 78) (by kernel_rfl) (by kernel_rfl) hsz (by kernel_rfl) hout hall
                obtain ⟨tt, dd⟩ := aa
                simp only [List.take_succ_cons, List.take_zero, List.drop_succ_cons, List.drop_zero, List.cons_append, List.nil_append, List.length_cons, List.length_nil, Nat.reduceAdd] at hat hdf
                subst hat hdf
                clear hsz hout hall
                have brw := boxed_below HBRU.out hN1U hW
                have cr := brw.cell
                have fr := brw.frozen
                gi_wp2
                refine ⟨((ko_belowF hW).trans (KeepsOthers.setCell _ _ _)).from _, ?_⟩
                exact ⟨rfl, (fun h => HNO.out (by rw [← HMP.out]; exact h))⟩
          | false =>
            have HYES : Hid (pre.map (fun x => lcF x.1) ++ [(x1, ⟨k, ⟨rl, rk, rkey, rval⟩, ⟨pl, pk, pp, pn, pkey⟩, ⟨ec, eb, ef, es⟩⟩)] <+: wn.map lcF) := hd (pre_snoc_yes HPRE.out (by
              rw [HPL.out, HLC.out, hbf.1 rfl]))
            have HW1 : Hid ((pre.length : Int) + 1 = (((pre ++ [(⟨(x1, x2, ⟨k, ⟨rl, rk, rkey, rval⟩, ⟨pl, pk, pp, pn, pkey⟩, ⟨ec, eb, ef, es⟩⟩), hx⟩ : PL l.length)]).length : Nat) : Int)) := hd (by
              rw [List.length_append, List.length_singleton]; omega)
            clear hbf
            gi_wp2
            refine region_skipIn (fun i9 v9 _ => v9 = [.int .i64 (pre.length : Int), .slice (some ⟨gw, 0, none⟩) wn.length xc, .int .i64 (wn.length : Int), .bool false, .bool false, .int .i64 (x1 : Int), .slice (some ⟨gw, 0, none⟩) wn.length xc, .int .i64 (pre.length : Int), .pointer (some ⟨gw, pre.length * 16, none⟩), .pointer (some ⟨gw, pre.length * 16, none⟩), .int .i64 (x1 : Int), .bool false, .bool false, .bool false, .agg #[.int .i64 k, .int .u64 (rl : Int), .int .i64 rk, .string rkey, .string rval, .int .u64 (pl : Int), .int .i64 pk, .int .i64 pp, .int .i64 pn, .string pkey, .int .i64 ec, .int .i64 eb, .int .i64 ef, .int .u32 (es : Int)], .slice (some ⟨gw, 0, none⟩) wn.length xc, .int .i64 (pre.length : Int), .pointer (some ⟨gw, pre.length * 16, none⟩), .pointer (some ⟨gw, pre.length * 16 + 2, none⟩), .agg #[.int .i64 kd0, .int .u64 (rl0 : Int), .int .i64 rk0, .string rkey0, .string rval0, .int .u64 (pl0 : Int), .int .i64 pk0, .int .i64 pp0, .int .i64 pn0, .string pkey0, .int .i64 ec0, .int .i64 eb0, .int .i64 ef0, .int .u32 (es0 : Int)], .bool false, .bool false].getD i9 undef) (fun w => Below U.heap.size U w) (fun _ => trivial) hmx (by kernel_rfl) (by kernel_rfl) ((Below.refl _ _).drew) (fun _ _ _ _ _ _ _ h => h) ?_ ?_
            · as_aux_lemma =>
                intro i9 o9 ho a9 w9 hW hdf hsz hout haf
                have ee6 := gF 6 (hout 6 (notDst_spec (by kernel_rfl)))
                have ee9 := gF 9 (hout 9 (notDst_spec (by kernel_rfl)))
                have ee12 := gF 12 (hout 12 (notDst_spec (by kernel_rfl)))
                have ee13 := gF 13 (hout 13 (notDst_spec (by kernel_rfl)))
                simp only [Array.getD_eq_getD_getElem?, List.getElem?_toArray, List.getElem?_cons_succ, List.getElem?_cons_zero, Option.getD_some] at ee6 ee9 ee12 ee13
                have hsz2 : a9.tmps.size = 220 := hsz
                clear hout hsz hdf
                have zzcn := (hW.cell (p := ⟨P, 0, none⟩) hPU).trans cn
                have zzcq := (hW.cell (p := ⟨Q, 0, none⟩) hQU).trans cq
                have zzr0 := (hW.cell (p := ⟨gw, pre.length * 16, none⟩) hgU).trans r0
                have zzk0 := (hW.cell (p := ⟨Bx, 0, none⟩) hBxU).trans k0
                have zzk1 := (hW.cell (p := ⟨Bx, 1, none⟩) hBxU).trans k1
                have zzk2 := (hW.cell (p := ⟨Bx, 2, none⟩) hBxU).trans k2
                have zzk3 := (hW.cell (p := ⟨Bx, 3, none⟩) hBxU).trans k3
                have zzk4 := (hW.cell (p := ⟨Bx, 4, none⟩) hBxU).trans k4
                have zzk5 := (hW.cell (p := ⟨Bx, 5, none⟩) hBxU).trans k5
                have zzk6 := (hW.cell (p := ⟨Bx, 6, none⟩) hBxU).trans k6
                have zzk7 := (hW.cell (p := ⟨Bx, 7, none⟩) hBxU).trans k7
                have zzk8 := (hW.cell (p := ⟨Bx, 8, none⟩) hBxU).trans k8
                have zzk9 := (hW.cell (p := ⟨Bx, 9, none⟩) hBxU).trans k9
                have zzk10 := (hW.cell (p := ⟨Bx, 10, none⟩) hBxU).trans k10
                have zzk11 := (hW.cell (p := ⟨Bx, 11, none⟩) hBxU).trans k11
                have zzk12 := (hW.cell (p := ⟨Bx, 12, none⟩) hBxU).trans k12
                have zzk13 := (hW.cell (p := ⟨Bx, 13, none⟩) hBxU).trans k13
                have zzr2 := (hW.cell (p := ⟨gw, pre.length * 16 + 2, none⟩) hgU).trans r2
                have zzr3 := (hW.cell (p := ⟨gw, pre.length * 16 + 3, none⟩) hgU).trans r3
                have zzr4 := (hW.cell (p := ⟨gw, pre.length * 16 + 4, none⟩) hgU).trans r4
                have zzr5 := (hW.cell (p := ⟨gw, pre.length * 16 + 5, none⟩) hgU).trans r5
                have zzr6 := (hW.cell (p := ⟨gw, pre.length * 16 + 6, none⟩) hgU).trans r6
                have zzr7 := (hW.cell (p := ⟨gw, pre.length * 16 + 7, none⟩) hgU).trans r7
                have zzr8 := (hW.cell (p := ⟨gw, pre.length * 16 + 8, none⟩) hgU).trans r8
                have zzr9 := (hW.cell (p := ⟨gw, pre.length * 16 + 9, none⟩) hgU).trans r9
                have zzr10 := (hW.cell (p := ⟨gw, pre.length * 16 + 10, none⟩) hgU).trans r10
                have zzr11 := (hW.cell (p := ⟨gw, pre.length * 16 + 11, none⟩) hgU).trans r11
                have zzr12 := (hW.cell (p := ⟨gw, pre.length * 16 + 12, none⟩) hgU).trans r12
                have zzr13 := (hW.cell (p := ⟨gw, pre.length * 16 + 13, none⟩) hgU).trans r13
                have zzr14 := (hW.cell (p := ⟨gw, pre.length * 16 + 14, none⟩) hgU).trans r14
                have zzr15 := (hW.cell (p := ⟨gw, pre.length * 16 + 15, none⟩) hgU).trans r15
                refine (match i9, ho, haf with | 0, ho, haf => ?_ | 1, ho, haf => ?_ | 2, ho, haf => ?_ | 3, ho, haf => ?_ | 4, ho, haf => ?_ | 5, ho, haf => ?_ | 6, ho, haf => ?_ | 7, ho, haf => ?_ | 8, ho, haf => ?_ | 9, ho, haf => ?_ | 10, ho, haf => ?_ | 11, ho, haf => ?_ | 12, ho, haf => ?_ | 13, ho, haf => ?_ | 14, ho, haf => ?_ | 15, ho, haf => ?_ | 16, ho, haf => ?_ | 17, ho, haf => ?_ | 18, ho, haf => ?_ | 19, ho, haf => ?_ | 20, ho, haf => ?_ | 21, ho, haf => ?_ | n + 22, ho, haf => absurd ho (by simp))
                all_goals obtain rfl := Option.some.inj ho
                refine skip_goodIn _ (wanted_none rfl) ?_; rotate_left
                refine skip_goodIn _ (wanted_none rfl) ?_; rotate_left
                have f1 := gF 79 (haf ⟨1, .data⟩ (by simp) rfl); refine skip_goodIn _ (wanted_none rfl) ?_; rotate_left
                have f0 := gF 78 (haf ⟨0, .data⟩ (by simp) rfl); have f2 := gF 80 (haf ⟨2, .data⟩ (by simp) rfl); refine skip_goodIn _ (wanted_none rfl) ?_; rotate_left
                have f3 := gF 81 (haf ⟨3, .data⟩ (by simp) rfl); refine skip_goodIn _ (wanted_none rfl) ?_; rotate_left
                refine skip_goodIn _ (wanted_some rfl (yielded_of (d := 82) rfl (by omega) (haf ⟨4, .guard⟩ (by simp) rfl))) ?_; rotate_left
                refine skip_goodIn _ (wanted_some rfl (yielded_of (d := 82) rfl (by omega) (haf ⟨4, .guard⟩ (by simp) rfl))) ?_; rotate_left
                refine skip_goodIn _ (wanted_some rfl (yielded_of (d := 82) rfl (by omega) (haf ⟨4, .guard⟩ (by simp) rfl))) ?_; rotate_left
                have f6 := gF 84 (haf ⟨6, .data⟩ (by simp) rfl); have f7 := gF 85 (haf ⟨7, .data⟩ (by simp) rfl); refine skip_goodIn _ (wanted_some rfl (yielded_of (d := 82) rfl (by omega) (haf ⟨4, .guard⟩ (by simp) rfl))) ?_; rotate_left
                have f8 := gF 86 (haf ⟨8, .data⟩ (by simp) rfl); refine skip_goodIn _ (wanted_some rfl (yielded_of (d := 82) rfl (by omega) (haf ⟨4, .guard⟩ (by simp) rfl))) ?_; rotate_left
                have f9 := gF 87 (haf ⟨9, .data⟩ (by simp) rfl); refine skip_goodIn _ (wanted_some rfl (yielded_of (d := 82) rfl (by omega) (haf ⟨4, .guard⟩ (by simp) rfl))) ?_; rotate_left
                have f5 := gF 83 (haf ⟨5, .data⟩ (by simp) rfl); have f10 := gF 88 (haf ⟨10, .data⟩ (by simp) rfl); refine skip_goodIn _ (wanted_some rfl (yielded_of (d := 82) rfl (by omega) (haf ⟨4, .guard⟩ (by simp) rfl))) ?_; rotate_left
                have f4 := gF 82 (haf ⟨4, .data⟩ (by simp) rfl); have f11 := gF 89 (haf ⟨11, .data⟩ (by simp) rfl); refine skip_goodIn _ (wanted_none rfl) ?_; rotate_left
                have f12 := gF 90 (haf ⟨12, .data⟩ (by simp) rfl); refine skip_goodIn _ (wanted_none rfl) ?_; rotate_left
                refine skip_goodIn _ (wanted_some rfl (yielded_of (d := 91) rfl (by omega) (haf ⟨13, .guard⟩ (by simp) rfl))) ?_; rotate_left
                refine skip_goodIn _ (wanted_some rfl (yielded_of (d := 91) rfl (by omega) (haf ⟨13, .guard⟩ (by simp) rfl))) ?_; rotate_left
                refine skip_goodIn _ (wanted_some rfl (yielded_of (d := 91) rfl (by omega) (haf ⟨13, .guard⟩ (by simp) rfl))) ?_; rotate_left
                have f15 := gF 93 (haf ⟨15, .data⟩ (by simp) rfl); have f16 := gF 94 (haf ⟨16, .data⟩ (by simp) rfl); refine skip_goodIn _ (wanted_some rfl (yielded_of (d := 91) rfl (by omega) (haf ⟨13, .guard⟩ (by simp) rfl))) ?_; rotate_left
                have f17 := gF 95 (haf ⟨17, .data⟩ (by simp) rfl); refine skip_goodIn _ (wanted_some rfl (yielded_of (d := 91) rfl (by omega) (haf ⟨13, .guard⟩ (by simp) rfl))) ?_; rotate_left
                have f18 := gF 96 (haf ⟨18, .data⟩ (by simp) rfl); refine skip_goodIn _ (wanted_some rfl (yielded_of (d := 91) rfl (by omega) (haf ⟨13, .guard⟩ (by simp) rfl))) ?_; rotate_left
                have f14 := gF 92 (haf ⟨14, .data⟩ (by simp) rfl); have f19 := gF 97 (haf ⟨19, .data⟩ (by simp) rfl); refine skip_goodIn _ (wanted_some rfl (yielded_of (d := 91) rfl (by omega) (haf ⟨13, .guard⟩ (by simp) rfl))) ?_; rotate_left
                have f13 := gF 91 (haf ⟨13, .data⟩ (by simp) rfl); have f20 := gF 98 (haf ⟨20, .data⟩ (by simp) rfl); refine skip_goodIn _ (wanted_none rfl) ?_; rotate_left
                all_goals (clear haf ho hsz2; intro K hK; try simp only [List.getD_cons_succ, List.getD_cons_zero] at *; simp only [List.getElem_toArray, List.getElem_cons_succ, List.getElem_cons_zero] at hK ⊢; go_simp; first | exact hK _ _ ⟨Below.refl _ _, hW, rfl⟩ | exact hK _ _ ⟨Below.refl _ _, hW, (by simp only [Value.bool.injEq, decide_eq_false_iff_not]; omega)⟩)
            · as_aux_lemma =>
                intro aa w9 hW hdf hsz hout hall
                have hat := tmps_seq (lo := 78) (by kernel_rfl) (by kernel_rfl) hsz (by kernel_rfl) hout hall
                obtain ⟨tt, dd⟩ := aa
                simp only [List.take_succ_cons, List.take_zero, List.drop_succ_cons, List.drop_zero, List.cons_append, List.nil_append, List.length_cons, List.length_nil, Nat.reduceAdd] at hat hdf
                subst hat hdf
                clear hsz hout hall
                have bnw := boxed_below HBNU.out hPU hW
                have cnw := bnw.cell
                have fnw := bnw.frozen
                by_cases h3 : 2 ≤ pre.length
                · have h3d : decide ((2 : Int) < (pre.length : Int) + 1) = true := by rw [decide_eq_true_iff]; omega
                  gi_wp2
                  rw [HW1.out]
                  refine ⟨((ko_belowF hW).trans (KeepsOthers.setCell _ _ _)).from _, (KeepS.of_below hW (fun k hk => ?_)).setCell (p := ⟨P, 0, none⟩) (fun h => ?_) _, (show Boxed (w9.setCell ⟨P, 0, none⟩ _) P _ _ from bnw.set _), ?_, (HB.out.trans (KeepS.of_below hW (fun k hk => by have := hk.1; omega))).setCell (p := ⟨P, 0, none⟩) (fun h => absurd rfl h.2) _, by have := hW.size; simp only [World.setCell, Array.size_modify] <;> omega, HXM.out⟩
                  · rcases hk with hk | hk
                    · have := hk.1; omega
                    · exact (HX.out _ hk).2
                  · rcases h with h | h
                    · exact h.2 rfl
                    · have := HXM.out _ h; have h2 : S2 ≤ P := this; omega
                  · rw [HMP.out]; exact HYES.out
                · have h3d : decide ((2 : Int) < (pre.length : Int) + 1) = false := by rw [decide_eq_false_iff_not]; omega
                  have hs9 := hW.size
                  have hQ2U : Q + 2 < U.heap.size := by omega
                  have ca9 := (boxed_below (boxed_keepS BAV.out ⟨by omega, by omega⟩ HB.out) hQ2U hW).cell
                  have n1 : ¬ P = Q + 2 := by omega
                  have n2 : ¬ Q + 2 = P := by omega
                  have n3 : Q + 2 < w9.heap.size := by omega
                  have n4 : ¬ Q + 2 = w9.heap.size := by omega
                  have n5 : ¬ w9.heap.size = Q + 2 := by omega
                  have n6 : P < w9.heap.size := by omega
                  have n7 : ¬ P = w9.heap.size := by omega
                  have n8 : ¬ w9.heap.size = P := by omega
                  gi_wp2
                  obtain ⟨Kb, hKb⟩ : ∃ Kb, Kb = w9.heap.size := ⟨_, rfl⟩
                  obtain ⟨V3, hV3⟩ : ∃ V3, V3 = (w9.setCell ⟨P, 0, none⟩ (.int .i64 ((pre.length : Int) + 1))).alloc (Obj.cells #[.int .i64 0] 3) := ⟨_, rfl⟩
                  have hs3 : V3.heap.size = Kb + 1 := by rw [hV3, hKb]; simp [World.setCell]
                  have hUK : U.heap.size ≤ Kb := by omega
                  have hUV : KeepS (fun k => k < U.heap.size ∧ k ≠ P) U V3 := by
                    rw [hV3]; exact (((KeepS.of_below hW (fun k hk => hk.1)).setCell (p := ⟨P, 0, none⟩) (fun h => h.2 rfl) _).alloc (fun k hk => by have := hk.1; simp only [World.setCell, Array.size_modify] <;> omega) _)
                  have hKO : KeepsOthers U V3 := by rw [hV3]; exact ((ko_belowF hW).trans (KeepsOthers.setCell _ _ _)).trans (KeepsOthers.alloc _ _)
                  have BN3 := hd (show Boxed V3 P 3 (.int .i64 ((pre.length : Int) + 1)) by rw [hV3]; exact (bnw.set _).alloc _)
                  have BK3 := hd (show Boxed V3 Kb 3 (.int .i64 0) by
                    have := Boxed.new (w9.setCell ⟨P, 0, none⟩ (.int .i64 ((pre.length : Int) + 1))) 3 (.int .i64 0)
                    rw [show (w9.setCell ⟨P, 0, none⟩ (.int .i64 ((pre.length : Int) + 1))).heap.size = Kb by rw [hKb]; simp [World.setCell]] at this
                    rw [hV3]; exact this)
                  rw [← hV3, ← hKb]
                  have hV23 : KeepS (ButP P S2) V2 V3 := HB.out.trans ⟨hUV.os, hUV.tape, hUV.output, hUV.size, fun k hk => hUV.block k ⟨by have := hk.1; omega, hk.2⟩⟩
                  have BO3 := hd (boxed_keepS BO2.out ⟨by omega, by omega⟩ hV23)
                  have BW3 := hd (boxed_keepS BW2.out ⟨by omega, by omega⟩ hV23)
                  have BR3 := hd (boxed_keepS BR2.out ⟨by omega, by omega⟩ hV23)
                  have J3 := hd (J2.out.keepS (fun g hg => ⟨by have := HWQ.out g hg; omega, by have := HWQ.out g hg; omega⟩) hV23)
                  have HG3 := hd (Buf.keepS HG2.out (S := ButP P S2) ⟨by omega, by omega⟩ hV23)
                  obtain ⟨rL, hrL⟩ := hlp
                  have hl3 := hKO.same lk _ hrL rfl
                  have HKO := hd hKO
                  have HUV := hd hUV
                  have HV23 := hd hV23
                  have hKP : P < Kb := by omega
                  have hKS3 : ∀ k, ButP Kb (Kb + 1) k → k < V3.heap.size := fun k hk => by have := hk.1; omega
                  have hOI3 : IsB V3 (.slice (some ⟨G, 0, none⟩) l.length (l.length + 8)) l := lent_isB HG3.out
                  have hseq3 := frames_seq (ButP Kb (Kb + 1)) (Q + 1) (.slice (some ⟨G, 0, none⟩) l.length (l.length + 8)) l V3 (by omega) hKS3 BO3.out.cell hOI3 (fun b off c' hne e => by
                    injection e with e _ _; injection e with e; injection e with e _ _; exact ⟨by omega, by omega⟩)
                  have HSQ3 := hd hseq3
                  have HKS3 := hd hKS3
                  have HX2 := hd HX.out
                  have HXM2 := hd HXM.out
                  clear hV3 hKb hUV hKO hV23 hseq3 hKS3 hOI3 hrL bnw cnw fnw ca9 n1 n2 n3 n4 n5 n6 n7 n8 hW hs9
                  clear r0 r2 r3 r4 r5 r6 r7 r8 r9 r10 r11 r12 r13 r14 r15 k0 k1 k2 k3 k4 k5 k6 k7 k8 k9 k10 k11 k12 k13 cn cq heq hblk w9
                  rename_i K hK
                  have HKK := hd hK
                  clear hK
                  refine (fun (R3 : ∀ (U3 : World), Boxed U3 Kb 3 (.int .i64 (wn.length : Int)) → KeepS (ButP Kb (Kb + 1)) V3 U3 → Kb + 1 ≤ U3.heap.size → K ⟨#[.slice a l.length c, .int .i64 z, undef, .pointer (some ⟨N, 0, none⟩), .pointer (some ⟨N + 1, 0, none⟩), .slice (some ⟨G, 0, none⟩) l.length (l.length + 8), .pointer (some ⟨Q, 0, none⟩), .pointer (some ⟨Q + 2, 0, none⟩), .func (.func 47) #[] #[.pointer (some ⟨Q + 4, 0, none⟩)], .pointer (some ⟨P, 0, none⟩), undef, undef, .int .i64 (x1 : Int), .pointer (some ⟨Bx, 0, none⟩), .pointer (some ⟨Kb, 0, none⟩), undef, undef, undef, undef, undef, undef, undef, .slice a l.length c, .slice (some ⟨G, 0, none⟩) l.length (l.length + 8), .slice a l.length c, .slice (some ⟨gw, 0, none⟩) wn.length xc, .slice (some ⟨G, 0, none⟩) l.length (l.length + 8), .func (.func 47) #[] #[.pointer (some ⟨Q + 1, 0, none⟩)], .slice (some ⟨Q + 3, 0, none⟩) 4 4, .func (.func 47) #[] #[.pointer (some ⟨Q + 4, 0, none⟩)], .func (.func 47) #[] #[.pointer (some ⟨Q + 1, 0, none⟩)], .bool false, .bool false, .func (.func 47) #[] #[.pointer (some ⟨Q + 4, 0, none⟩)], .bool false, .bool false, .func (.func 47) #[] #[.pointer (some ⟨Q + 1, 0, none⟩)], undef, undef, undef, undef, undef, undef, undef, undef, undef, undef, undef, undef, undef, undef, undef, undef, undef, undef, undef, undef, undef, undef, undef, undef, undef, undef, undef, undef, undef, u66, u67, u68, u69, u70, u71, u72, u73, u74, .func (.func 47) #[] #[.pointer (some ⟨Q + 1, 0, none⟩)], .int .i64 (x1 : Int), Value.agg (frv ⟨k, ⟨rl, rk, rkey, rval⟩, ⟨pl, pk, pp, pn, pkey⟩, ⟨ec, eb, ef, es⟩⟩).toArray, .int .i64 (pre.length : Int), .slice (some ⟨gw, 0, none⟩) wn.length xc, .int .i64 (wn.length : Int), .bool false, .bool false, .int .i64 (x1 : Int), .slice (some ⟨gw, 0, none⟩) wn.length xc, .int .i64 (pre.length : Int), Value.pointer (some { block := gw, off := pre.length * 16 }), Value.pointer (some { block := gw, off := pre.length * 16 }), .int .i64 (x1 : Int), .bool false, .bool false, .bool false, Value.agg #[.int .i64 k, Value.int IntKind.u64 (rl : Int), .int .i64 rk, Value.string rkey, Value.string rval, Value.int IntKind.u64 (pl : Int), .int .i64 pk, .int .i64 pp, .int .i64 pn, Value.string pkey, .int .i64 ec, .int .i64 eb, .int .i64 ef, Value.int IntKind.u32 (es : Int)], .slice (some ⟨gw, 0, none⟩) wn.length xc, .int .i64 (pre.length : Int), Value.pointer (some { block := gw, off := pre.length * 16 }), Value.pointer (some { block := gw, off := pre.length * 16 + 2 }), Value.agg #[.int .i64 kd0, Value.int IntKind.u64 (rl0 : Int), .int .i64 rk0, Value.string rkey0, Value.string rval0, Value.int IntKind.u64 (pl0 : Int), .int .i64 pk0, .int .i64 pp0, .int .i64 pn0, Value.string pkey0, .int .i64 ec0, .int .i64 eb0, .int .i64 ef0, Value.int IntKind.u32 (es0 : Int)], .bool false, .bool false, .int .i64 (pre.length : Int), .int .i64 ((pre.length : Int) + 1), .int .i64 ((pre.length : Int) + 1), .bool false, .func (.func 47) #[] #[.pointer (some ⟨Q + 1, 0, none⟩)], undef, undef, undef, undef, undef, undef, undef, undef, undef, undef, undef, undef, undef, undef, undef, undef, undef, undef, undef, undef, undef, undef, undef, undef, undef, undef, undef, undef, undef, undef, undef, undef, undef, undef, undef, undef, undef, undef, undef, undef, undef, undef, undef, undef, undef, undef, undef, undef, undef, undef, undef, undef, undef, undef, undef, undef, undef, undef, undef, undef, undef, undef, undef, undef, undef, undef, undef, undef, undef, undef, undef, undef, undef, undef, undef, undef, undef, undef, undef, undef, undef, undef, undef, undef, undef, undef, undef, undef, undef, undef, undef, undef, undef, undef, undef, undef, undef, undef, undef, undef, undef, undef, undef, undef, undef, undef, undef, undef, undef, undef, undef, undef, undef, undef, undef], []⟩ U3) => ?mainC) ?tailC
                  case tailC =>
                    intro U3 hBK hB3 hs
                    refine HKK.out _ _ ?_
                    have ck := hBK.cell
                    have cq := (boxed_keepS BW3.out ⟨by omega, by omega⟩ hB3).cell
                    have HBK := hd hBK
                    have HB3 := hd hB3
                    clear hBK hB3 HKK HSQ3 HKS3
                    gi_wp2
                    have hBP := boxed_keepS BN3.out (S := ButP Kb (Kb + 1)) ⟨by omega, by omega⟩ HB3.out
                    rw [HW1.out] at hBP
                    have hko : KeepsOthers V3 U3 := ⟨HB3.out.size, fun k o hk ho => (HB3.out.block k ⟨by have := (Array.getElem?_eq_some_iff.1 hk).1; omega, fun e => by
                      subst e
                      have h := BK3.out
                      rw [show V3.heap[k]? = _ from h] at hk
                      injection hk with hk
                      rw [← hk] at ho
                      cases ho⟩).trans hk⟩
                    have hsub : KeepS (fun k => k < U.heap.size) V3 U3 := ⟨HB3.out.os, HB3.out.tape, HB3.out.output, HB3.out.size, fun k hk => HB3.out.block k ⟨by omega, by omega⟩⟩
                    have hUU : KeepS (fun k => k < U.heap.size ∧ k ≠ P) U U3 := HUV.out.trans ⟨hsub.os, hsub.tape, hsub.output, hsub.size, fun k hk => hsub.block k hk.1⟩
                    refine ⟨(HKO.out.trans hko).from _, ⟨hUU.os, hUU.tape, hUU.output, hUU.size, fun k hk => hUU.block k ?_⟩, hBP, ?_, HV23.out.trans ⟨hsub.os, hsub.tape, hsub.output, hsub.size, fun k hk => hsub.block k (by have := hk.1; omega)⟩, by omega, HXM.out⟩
                    · rcases hk with hk | hk
                      · exact ⟨by have := hk.1; omega, hk.2⟩
                      · exact ⟨(HX.out _ hk).2, fun e => by have := HXM.out _ hk; omega⟩
                    · rw [HMP.out]; exact HYES.out
                  have HR3 := hd R3
                  clear R3 HKK
                  refine wpIn_rangeFunc_XN hl3 (gf := 47) (lb := #[.pointer (some ⟨Q + 1, 0, none⟩)]) rfl (enters_of Try.func47 (by kernel_rfl) rfl) HSQ3.out HKS3.out (Below.refl _ _) (fun _ => rfl)
                    (SfJ Kb (Kb + 1) V3 (wn.map lcF)) (fun (c : Code) (pre : List (PL l.length)) (_ : Nat → Prop) (_ : World) => c = .ret ∧ ¬ pre.map (fun (x : PL l.length) => lcF x.1) <+: wn.map lcF) (hs3 ▸ sfJ_abides (by omega)) (fun _ _ _ _ _ _ h _ _ => h) ⟨BK3.out, List.nil_prefix, KeepS.refl _, by omega, fun _ h => h.elim⟩
                    (fun (x : PL l.length) a' U => ∃ Bxi, Kb + 1 ≤ Bxi ∧ Blk U Bxi 41 (frv x.1.2.2) ∧ a' = { tmps := #[.slice a l.length c, .int .i64 z, undef, .pointer (some ⟨N, 0, none⟩), .pointer (some ⟨N + 1, 0, none⟩), .slice (some ⟨G, 0, none⟩) l.length (l.length + 8), .pointer (some ⟨Q, 0, none⟩), .pointer (some ⟨Q + 2, 0, none⟩), .func (.func 47) #[] #[.pointer (some ⟨Q + 4, 0, none⟩)], .pointer (some ⟨P, 0, none⟩), undef, undef, .int .i64 (x1 : Int), .pointer (some ⟨Bx, 0, none⟩), .pointer (some ⟨Kb, 0, none⟩), .int .i64 (x.1.1 : Int), .pointer (some ⟨Bxi, 0, none⟩), undef, undef, undef, undef, undef, .slice a l.length c, .slice (some ⟨G, 0, none⟩) l.length (l.length + 8), .slice a l.length c, .slice (some ⟨gw, 0, none⟩) wn.length xc, .slice (some ⟨G, 0, none⟩) l.length (l.length + 8), .func (.func 47) #[] #[.pointer (some ⟨Q + 1, 0, none⟩)], .slice (some ⟨Q + 3, 0, none⟩) 4 4, .func (.func 47) #[] #[.pointer (some ⟨Q + 4, 0, none⟩)], .func (.func 47) #[] #[.pointer (some ⟨Q + 1, 0, none⟩)], .bool false, .bool false, .func (.func 47) #[] #[.pointer (some ⟨Q + 4, 0, none⟩)], .bool false, .bool false, .func (.func 47) #[] #[.pointer (some ⟨Q + 1, 0, none⟩)], undef, undef, undef, undef, undef, undef, undef, undef, undef, undef, undef, undef, undef, undef, undef, undef, undef, undef, undef, undef, undef, undef, undef, undef, undef, undef, undef, undef, undef, u66, u67, u68, u69, u70, u71, u72, u73, u74, .func (.func 47) #[] #[.pointer (some ⟨Q + 1, 0, none⟩)], .int .i64 (x1 : Int), Value.agg (frv ⟨k, ⟨rl, rk, rkey, rval⟩, ⟨pl, pk, pp, pn, pkey⟩, ⟨ec, eb, ef, es⟩⟩).toArray, .int .i64 (pre.length : Int), .slice (some ⟨gw, 0, none⟩) wn.length xc, .int .i64 (wn.length : Int), .bool false, .bool false, .int .i64 (x1 : Int), .slice (some ⟨gw, 0, none⟩) wn.length xc, .int .i64 (pre.length : Int), Value.pointer (some { block := gw, off := pre.length * 16 }), Value.pointer (some { block := gw, off := pre.length * 16 }), .int .i64 (x1 : Int), .bool false, .bool false, .bool false, Value.agg #[.int .i64 k, Value.int IntKind.u64 (rl : Int), .int .i64 rk, Value.string rkey, Value.string rval, Value.int IntKind.u64 (pl : Int), .int .i64 pk, .int .i64 pp, .int .i64 pn, Value.string pkey, .int .i64 ec, .int .i64 eb, .int .i64 ef, Value.int IntKind.u32 (es : Int)], .slice (some ⟨gw, 0, none⟩) wn.length xc, .int .i64 (pre.length : Int), Value.pointer (some { block := gw, off := pre.length * 16 }), Value.pointer (some { block := gw, off := pre.length * 16 + 2 }), Value.agg #[.int .i64 kd0, Value.int IntKind.u64 (rl0 : Int), .int .i64 rk0, Value.string rkey0, Value.string rval0, Value.int IntKind.u64 (pl0 : Int), .int .i64 pk0, .int .i64 pp0, .int .i64 pn0, Value.string pkey0, .int .i64 ec0, .int .i64 eb0, .int .i64 ef0, Value.int IntKind.u32 (es0 : Int)], .bool false, .bool false, .int .i64 (pre.length : Int), .int .i64 ((pre.length : Int) + 1), .int .i64 ((pre.length : Int) + 1), .bool false, .func (.func 47) #[] #[.pointer (some ⟨Q + 1, 0, none⟩)], .int .i64 (x.1.1 : Int), .agg (frv x.1.2.2).toArray, undef, undef, undef, undef, undef, undef, undef, undef, undef, undef, undef, undef, undef, undef, undef, undef, undef, undef, undef, undef, undef, undef, undef, undef, undef, undef, undef, undef, undef, undef, undef, undef, undef, undef, undef, undef, undef, undef, undef, undef, undef, undef, undef, undef, undef, undef, undef, undef, undef, undef, undef, undef, undef, undef, undef, undef, undef, undef, undef, undef, undef, undef, undef, undef, undef, undef, undef, undef, undef, undef, undef, undef, undef, undef, undef, undef, undef, undef, undef, undef, undef, undef, undef, undef, undef, undef, undef, undef, undef, undef, undef, undef, undef, undef, undef, undef, undef, undef, undef, undef, undef, undef, undef, undef, undef, undef, undef, undef, undef, undef, undef, undef, undef], defers := [] })
                    (fun x a' _ V V' row hs hg hr => by
                      obtain ⟨Bx, h1, h2, h3⟩ := hs
                      exact ⟨Bx, by omega, blkQ_kept h2 hg (fun r e => (hr r e).2), h3⟩)
                    ?assign3 ?body3 ?done3 ?stop3
                  case assign3 =>
                    rintro lk2 pre2 ⟨⟨x1i, x2i, ki, ⟨rli, rki, rkeyi, rvali⟩, ⟨pli, pki, pa', pni, pkeyi⟩, ⟨eci, ebi, efi, esi⟩⟩, hxi⟩ X V K hi hX hK
                    simp only [enc2, frv]
                    gi_wp2
                    have hsV := hi.2.2.2.1
                    exact hK _ _ ((KeepsOthers.alloc _ _).from _) ((KeepS.refl _).alloc (fun k hk => by rcases hk with hk | hk; have := hk.1; omega; exact (hX k hk).2) _) (sfJ_abides (by omega) pre2 X X _ _ hi (Turned.alloc _ _) (fun _ h => .inl h)) ⟨V.heap.size, by omega, Blk.new V 41 (frv ⟨ki, ⟨rli, rki, rkeyi, rvali⟩, ⟨pli, pki, pa', pni, pkeyi⟩, ⟨eci, ebi, efi, esi⟩⟩), rfl⟩
                  case stop3 =>
                    rintro c2 pre2 X2 U2 hp ⟨rfl, hj⟩
                    exfalso
                    apply hj
                    obtain ⟨r, hr⟩ := hp
                    refine ⟨r.map lcF, ?_⟩
                    rw [HWN.out, ← hr, List.map_append, List.map_map]
                    rfl
                  case done3 =>
                    rintro ys X2 U2 hys ⟨bn, hpre, hB, hsU, hXM⟩
                    gi_wp2
                    have hyl : ys.length = wn.length := by rw [HWN.out, ← hys, List.length_map]
                    rw [hyl] at bn
                    exact HR3.out U2 bn hB hsU
                  case body3 =>
                    have BWV := BW3
                    have BRV := BR3
                    have JV := J3
                    have HWV : Hid (∀ g, (Value.slice (some ⟨gw, 0, none⟩) wn.length xc).ownBlock = some g → ButP Kb (Kb + 1) g) := fun g hg => ⟨by have := HWQ.out g hg; omega, by have := HWQ.out g hg; omega⟩
                    rintro lki prei ⟨⟨x1i, x2i, f⟩, hxi⟩ Xi a' Ui hlk hlp hX ⟨bn, hpre, hB, hsU, hXM⟩ ⟨Bxi, hBx, hblk, rfl⟩ hlen
                    obtain ⟨ki, ⟨rli, rki, rkeyi, rvali⟩, ⟨pli, pki, ppi, pni, pkeyi⟩, ⟨eci, ebi, efi, esi⟩⟩ := f
                    have hblk : Blk Ui Bxi 41 [.int .i64 ki, .int .u64 (rli : Int), .int .i64 rki, .string rkeyi, .string rvali, .int .u64 (pli : Int), .int .i64 pki, .int .i64 ppi, .int .i64 pni, .string pkeyi, .int .i64 eci, .int .i64 ebi, .int .i64 efi, .int .u32 (esi : Int)] := hblk
                    have hBxU : Bxi < Ui.heap.size := (Array.getElem?_eq_some_iff.1 hblk).1
                    have k0 := hblk.cell 0 _ rfl
                    have k1 := hblk.cell 1 _ rfl
                    have k2 := hblk.cell 2 _ rfl
                    have k3 := hblk.cell 3 _ rfl
                    have k4 := hblk.cell 4 _ rfl
                    have k5 := hblk.cell 5 _ rfl
                    have k6 := hblk.cell 6 _ rfl
                    have k7 := hblk.cell 7 _ rfl
                    have k8 := hblk.cell 8 _ rfl
                    have k9 := hblk.cell 9 _ rfl
                    have k10 := hblk.cell 10 _ rfl
                    have k11 := hblk.cell 11 _ rfl
                    have k12 := hblk.cell 12 _ rfl
                    have k13 := hblk.cell 13 _ rfl
                    have cn := bn.cell
                    have cq := (boxed_keepS BWV.out ⟨by omega, by omega⟩ hB).cell
                    have hPU : Kb < Ui.heap.size := by omega
                    have hQU : Q < Ui.heap.size := by omega
                    have hN1U : N + 1 < Ui.heap.size := by omega
                    have HMP : Hid ((prei ++ [(⟨(x1i, x2i, ⟨ki, ⟨rli, rki, rkeyi, rvali⟩, ⟨pli, pki, ppi, pni, pkeyi⟩, ⟨eci, ebi, efi, esi⟩⟩), hxi⟩ : PL l.length)]).map (fun x => lcF x.1) = prei.map (fun x => lcF x.1) ++ [(x1i, ⟨ki, ⟨rli, rki, rkeyi, rvali⟩, ⟨pli, pki, ppi, pni, pkeyi⟩, ⟨eci, ebi, efi, esi⟩⟩)]) := by
                      show _ = _
                      rw [List.map_append, List.map_singleton]
                      rfl
                    have HPL : Hid ((prei.map (fun x => lcF x.1)).length = prei.length) := List.length_map _
                    have HPRE := hd hpre
                    have HB := hd hB
                    have HBNU := hd bn
                    have HBRU := hd (boxed_keepS BRV.out ⟨by omega, by omega⟩ hB)
                    have HJU := hd (JV.out.keepS (fun g hg => HWV.out g hg) hB)
                    have HXM := hd hXM
                    have HX := hd hX
                    clear hpre hB bn hXM hX
                    by_cases hlt : prei.length < wn.length
                    · have hge : ¬ ((prei.length : Int) ≥ (wn.length : Int)) := by omega
                      obtain ⟨⟨p0i, n0i, kd0i, ⟨rl0i, rk0i, rkey0i, rval0i⟩, ⟨pl0i, pk0i, pp0i, pn0i, pkey0i⟩, ⟨ec0i, eb0i, ef0i, es0i⟩⟩, hlc⟩ : ∃ x, wn[prei.length]? = some x := ⟨_, List.getElem?_eq_getElem hlt⟩
                      have hxm : (wn.map fov)[prei.length]? = some [.int .i64 (p0i : Int), .int .i64 (n0i : Int), .int .i64 kd0i, .int .u64 (rl0i : Int), .int .i64 rk0i, .string rkey0i, .string rval0i, .int .u64 (pl0i : Int), .int .i64 pk0i, .int .i64 pp0i, .int .i64 pn0i, .string pkey0i, .int .i64 ec0i, .int .i64 eb0i, .int .i64 ef0i, .int .u32 (es0i : Int)] := by rw [List.getElem?_map, hlc]; rfl
                      obtain ⟨gw2, cv', hv1, hg1, hm1⟩ := HJU.out.nn (by intro e; rw [e] at hxm; simp at hxm)
                      injection hv1 with e1 e2 e3
                      injection e1 with e1
                      injection e1 with e1
                      subst e1
                      have hgU : gw < Ui.heap.size := HJU.out.blk_lt gw rfl
                      have r0 := HJU.out.at prei.length _ 0 _ hxm rfl
                      rw [Nat.add_zero] at r0
                      have r2 := HJU.out.at prei.length _ 2 _ hxm rfl
                      have r3 := HJU.out.at prei.length _ 3 _ hxm rfl
                      have r4 := HJU.out.at prei.length _ 4 _ hxm rfl
                      have r5 := HJU.out.at prei.length _ 5 _ hxm rfl
                      have r6 := HJU.out.at prei.length _ 6 _ hxm rfl
                      have r7 := HJU.out.at prei.length _ 7 _ hxm rfl
                      have r8 := HJU.out.at prei.length _ 8 _ hxm rfl
                      have r9 := HJU.out.at prei.length _ 9 _ hxm rfl
                      have r10 := HJU.out.at prei.length _ 10 _ hxm rfl
                      have r11 := HJU.out.at prei.length _ 11 _ hxm rfl
                      have r12 := HJU.out.at prei.length _ 12 _ hxm rfl
                      have r13 := HJU.out.at prei.length _ 13 _ hxm rfl
                      have r14 := HJU.out.at prei.length _ 14 _ hxm rfl
                      have r15 := HJU.out.at prei.length _ 15 _ hxm rfl
                      have HLC : Hid ((wn.map lcF)[prei.length]? = some (p0i, ⟨kd0i, ⟨rl0i, rk0i, rkey0i, rval0i⟩, ⟨pl0i, pk0i, pp0i, pn0i, pkey0i⟩, ⟨ec0i, eb0i, ef0i, es0i⟩⟩)) := by
                        show _ = _
                        rw [List.getElem?_map, hlc]; rfl
                      obtain ⟨bb, hbb, hbf⟩ := neq_any ⟨ki, ⟨rli, rki, rkeyi, rvali⟩, ⟨pli, pki, ppi, pni, pkeyi⟩, ⟨eci, ebi, efi, esi⟩⟩ ⟨kd0i, ⟨rl0i, rk0i, rkey0i, rval0i⟩, ⟨pl0i, pk0i, pp0i, pn0i, pkey0i⟩, ⟨ec0i, eb0i, ef0i, es0i⟩⟩
                      have heq : ∀ w, (binOp .neq 41 (.agg #[.int .i64 ki, .int .u64 (rli : Int), .int .i64 rki, .string rkeyi, .string rvali, .int .u64 (pli : Int), .int .i64 pki, .int .i64 ppi, .int .i64 pni, .string pkeyi, .int .i64 eci, .int .i64 ebi, .int .i64 efi, .int .u32 (esi : Int)]) (.agg #[.int .i64 kd0i, .int .u64 (rl0i : Int), .int .i64 rk0i, .string rkey0i, .string rval0i, .int .u64 (pl0i : Int), .int .i64 pk0i, .int .i64 pp0i, .int .i64 pn0i, .string pkey0i, .int .i64 ec0i, .int .i64 eb0i, .int .i64 ef0i, .int .u32 (es0i : Int)])).run Try.prog w = .ok (.bool bb) w := hbb
                      clear hbb hlc hxm hg1 hm1 e2 e3
                      by_cases hp : x1i = p0i
                      · subst hp
                        cases bb with
                        | true =>
                          have HNO : Hid (¬ prei.map (fun x => lcF x.1) ++ [(x1i, ⟨ki, ⟨rli, rki, rkeyi, rvali⟩, ⟨pli, pki, ppi, pni, pkeyi⟩, ⟨eci, ebi, efi, esi⟩⟩)] <+: wn.map lcF) := hd (pre_snoc_no (by
                            rw [HPL.out]
                            intro e
                            have e2 := HLC.out.symm.trans e
                            injection e2 with e2
                            injection e2 with _ e2
                            have := hbf.2 e2.symm
                            cases this))
                          clear hbf
                          gi_wp2
                          refine region_skipIn (fun i9 v9 _ => v9 = [.int .i64 (prei.length : Int), .slice (some ⟨gw, 0, none⟩) wn.length xc, .int .i64 (wn.length : Int), .bool false, .bool false, .int .i64 (x1i : Int), .slice (some ⟨gw, 0, none⟩) wn.length xc, .int .i64 (prei.length : Int), .pointer (some ⟨gw, prei.length * 16, none⟩), .pointer (some ⟨gw, prei.length * 16, none⟩), .int .i64 (x1i : Int), .bool false, .bool false, .bool false, .agg #[.int .i64 ki, .int .u64 (rli : Int), .int .i64 rki, .string rkeyi, .string rvali, .int .u64 (pli : Int), .int .i64 pki, .int .i64 ppi, .int .i64 pni, .string pkeyi, .int .i64 eci, .int .i64 ebi, .int .i64 efi, .int .u32 (esi : Int)], .slice (some ⟨gw, 0, none⟩) wn.length xc, .int .i64 (prei.length : Int), .pointer (some ⟨gw, prei.length * 16, none⟩), .pointer (some ⟨gw, prei.length * 16 + 2, none⟩), .agg #[.int .i64 kd0i, .int .u64 (rl0i : Int), .int .i64 rk0i, .string rkey0i, .string rval0i, .int .u64 (pl0i : Int), .int .i64 pk0i, .int .i64 pp0i, .int .i64 pn0i, .string pkey0i, .int .i64 ec0i, .int .i64 eb0i, .int .i64 ef0i, .int .u32 (es0i : Int)], .bool true, .bool true].getD i9 undef) (fun w => Below Ui.heap.size Ui w) (fun _ => trivial) hmx (by kernel_rfl) (by kernel_rfl) ((Below.refl _ _).drew) (fun _ _ _ _ _ _ _ h => h) ?_ ?_
                          · as_aux_lemma =>
                              intro i9 o9 ho a9 w9 hW hdf hsz hout haf
                              have ee6 := gF 6 (hout 6 (notDst_spec (by kernel_rfl)))
                              have ee14 := gF 14 (hout 14 (notDst_spec (by kernel_rfl)))
                              have ee15 := gF 15 (hout 15 (notDst_spec (by kernel_rfl)))
                              have ee16 := gF 16 (hout 16 (notDst_spec (by kernel_rfl)))
                              simp only [Array.getD_eq_getD_getElem?, List.getElem?_toArray, List.getElem?_cons_succ, List.getElem?_cons_zero, Option.getD_some] at ee6 ee14 ee15 ee16
                              have hsz2 : a9.tmps.size = 220 := hsz
                              clear hout hsz hdf
                              have zzcn := (hW.cell (p := ⟨Kb, 0, none⟩) hPU).trans cn
                              have zzcq := (hW.cell (p := ⟨Q, 0, none⟩) hQU).trans cq
                              have zzr0 := (hW.cell (p := ⟨gw, prei.length * 16, none⟩) hgU).trans r0
                              have zzk0 := (hW.cell (p := ⟨Bxi, 0, none⟩) hBxU).trans k0
                              have zzk1 := (hW.cell (p := ⟨Bxi, 1, none⟩) hBxU).trans k1
                              have zzk2 := (hW.cell (p := ⟨Bxi, 2, none⟩) hBxU).trans k2
                              have zzk3 := (hW.cell (p := ⟨Bxi, 3, none⟩) hBxU).trans k3
                              have zzk4 := (hW.cell (p := ⟨Bxi, 4, none⟩) hBxU).trans k4
                              have zzk5 := (hW.cell (p := ⟨Bxi, 5, none⟩) hBxU).trans k5
                              have zzk6 := (hW.cell (p := ⟨Bxi, 6, none⟩) hBxU).trans k6
                              have zzk7 := (hW.cell (p := ⟨Bxi, 7, none⟩) hBxU).trans k7
                              have zzk8 := (hW.cell (p := ⟨Bxi, 8, none⟩) hBxU).trans k8
                              have zzk9 := (hW.cell (p := ⟨Bxi, 9, none⟩) hBxU).trans k9
                              have zzk10 := (hW.cell (p := ⟨Bxi, 10, none⟩) hBxU).trans k10
                              have zzk11 := (hW.cell (p := ⟨Bxi, 11, none⟩) hBxU).trans k11
                              have zzk12 := (hW.cell (p := ⟨Bxi, 12, none⟩) hBxU).trans k12
                              have zzk13 := (hW.cell (p := ⟨Bxi, 13, none⟩) hBxU).trans k13
                              have zzr2 := (hW.cell (p := ⟨gw, prei.length * 16 + 2, none⟩) hgU).trans r2
                              have zzr3 := (hW.cell (p := ⟨gw, prei.length * 16 + 3, none⟩) hgU).trans r3
                              have zzr4 := (hW.cell (p := ⟨gw, prei.length * 16 + 4, none⟩) hgU).trans r4
                              have zzr5 := (hW.cell (p := ⟨gw, prei.length * 16 + 5, none⟩) hgU).trans r5
                              have zzr6 := (hW.cell (p := ⟨gw, prei.length * 16 + 6, none⟩) hgU).trans r6
                              have zzr7 := (hW.cell (p := ⟨gw, prei.length * 16 + 7, none⟩) hgU).trans r7
                              have zzr8 := (hW.cell (p := ⟨gw, prei.length * 16 + 8, none⟩) hgU).trans r8
                              have zzr9 := (hW.cell (p := ⟨gw, prei.length * 16 + 9, none⟩) hgU).trans r9
                              have zzr10 := (hW.cell (p := ⟨gw, prei.length * 16 + 10, none⟩) hgU).trans r10
                              have zzr11 := (hW.cell (p := ⟨gw, prei.length * 16 + 11, none⟩) hgU).trans r11
                              have zzr12 := (hW.cell (p := ⟨gw, prei.length * 16 + 12, none⟩) hgU).trans r12
                              have zzr13 := (hW.cell (p := ⟨gw, prei.length * 16 + 13, none⟩) hgU).trans r13
                              have zzr14 := (hW.cell (p := ⟨gw, prei.length * 16 + 14, none⟩) hgU).trans r14
                              have zzr15 := (hW.cell (p := ⟨gw, prei.length * 16 + 15, none⟩) hgU).trans r15
                              refine (match i9, ho, haf with | 0, ho, haf => ?_ | 1, ho, haf => ?_ | 2, ho, haf => ?_ | 3, ho, haf => ?_ | 4, ho, haf => ?_ | 5, ho, haf => ?_ | 6, ho, haf => ?_ | 7, ho, haf => ?_ | 8, ho, haf => ?_ | 9, ho, haf => ?_ | 10, ho, haf => ?_ | 11, ho, haf => ?_ | 12, ho, haf => ?_ | 13, ho, haf => ?_ | 14, ho, haf => ?_ | 15, ho, haf => ?_ | 16, ho, haf => ?_ | 17, ho, haf => ?_ | 18, ho, haf => ?_ | 19, ho, haf => ?_ | 20, ho, haf => ?_ | 21, ho, haf => ?_ | n + 22, ho, haf => absurd ho (by simp))
                              all_goals obtain rfl := Option.some.inj ho
                              refine skip_goodIn _ (wanted_none rfl) ?_; rotate_left
                              refine skip_goodIn _ (wanted_none rfl) ?_; rotate_left
                              have f1 := gF 108 (haf ⟨1, .data⟩ (by simp) rfl); refine skip_goodIn _ (wanted_none rfl) ?_; rotate_left
                              have f0 := gF 107 (haf ⟨0, .data⟩ (by simp) rfl); have f2 := gF 109 (haf ⟨2, .data⟩ (by simp) rfl); refine skip_goodIn _ (wanted_none rfl) ?_; rotate_left
                              have f3 := gF 110 (haf ⟨3, .data⟩ (by simp) rfl); refine skip_goodIn _ (wanted_none rfl) ?_; rotate_left
                              refine skip_goodIn _ (wanted_some rfl (yielded_of (d := 111) rfl (by omega) (haf ⟨4, .guard⟩ (by simp) rfl))) ?_; rotate_left
                              refine skip_goodIn _ (wanted_some rfl (yielded_of (d := 111) rfl (by omega) (haf ⟨4, .guard⟩ (by simp) rfl))) ?_; rotate_left
                              refine skip_goodIn _ (wanted_some rfl (yielded_of (d := 111) rfl (by omega) (haf ⟨4, .guard⟩ (by simp) rfl))) ?_; rotate_left
                              have f6 := gF 113 (haf ⟨6, .data⟩ (by simp) rfl); have f7 := gF 114 (haf ⟨7, .data⟩ (by simp) rfl); refine skip_goodIn _ (wanted_some rfl (yielded_of (d := 111) rfl (by omega) (haf ⟨4, .guard⟩ (by simp) rfl))) ?_; rotate_left
                              have f8 := gF 115 (haf ⟨8, .data⟩ (by simp) rfl); refine skip_goodIn _ (wanted_some rfl (yielded_of (d := 111) rfl (by omega) (haf ⟨4, .guard⟩ (by simp) rfl))) ?_; rotate_left
                              have f9 := gF 116 (haf ⟨9, .data⟩ (by simp) rfl); refine skip_goodIn _ (wanted_some rfl (yielded_of (d := 111) rfl (by omega) (haf ⟨4, .guard⟩ (by simp) rfl))) ?_; rotate_left
                              have f5 := gF 112 (haf ⟨5, .data⟩ (by simp) rfl); have f10 := gF 117 (haf ⟨10, .data⟩ (by simp) rfl); refine skip_goodIn _ (wanted_some rfl (yielded_of (d := 111) rfl (by omega) (haf ⟨4, .guard⟩ (by simp) rfl))) ?_; rotate_left
                              have f4 := gF 111 (haf ⟨4, .data⟩ (by simp) rfl); have f11 := gF 118 (haf ⟨11, .data⟩ (by simp) rfl); refine skip_goodIn _ (wanted_none rfl) ?_; rotate_left
                              have f12 := gF 119 (haf ⟨12, .data⟩ (by simp) rfl); refine skip_goodIn _ (wanted_none rfl) ?_; rotate_left
                              refine skip_goodIn _ (wanted_some rfl (yielded_of (d := 120) rfl (by omega) (haf ⟨13, .guard⟩ (by simp) rfl))) ?_; rotate_left
                              refine skip_goodIn _ (wanted_some rfl (yielded_of (d := 120) rfl (by omega) (haf ⟨13, .guard⟩ (by simp) rfl))) ?_; rotate_left
                              refine skip_goodIn _ (wanted_some rfl (yielded_of (d := 120) rfl (by omega) (haf ⟨13, .guard⟩ (by simp) rfl))) ?_; rotate_left
                              have f15 := gF 122 (haf ⟨15, .data⟩ (by simp) rfl); have f16 := gF 123 (haf ⟨16, .data⟩ (by simp) rfl); refine skip_goodIn _ (wanted_some rfl (yielded_of (d := 120) rfl (by omega) (haf ⟨13, .guard⟩ (by simp) rfl))) ?_; rotate_left
                              have f17 := gF 124 (haf ⟨17, .data⟩ (by simp) rfl); refine skip_goodIn _ (wanted_some rfl (yielded_of (d := 120) rfl (by omega) (haf ⟨13, .guard⟩ (by simp) rfl))) ?_; rotate_left
                              have f18 := gF 125 (haf ⟨18, .data⟩ (by simp) rfl); refine skip_goodIn _ (wanted_some rfl (yielded_of (d := 120) rfl (by omega) (haf ⟨13, .guard⟩ (by simp) rfl))) ?_; rotate_left
                              have f14 := gF 121 (haf ⟨14, .data⟩ (by simp) rfl); have f19 := gF 126 (haf ⟨19, .data⟩ (by simp) rfl); refine skip_goodIn _ (wanted_some rfl (yielded_of (d := 120) rfl (by omega) (haf ⟨13, .guard⟩ (by simp) rfl))) ?_; rotate_left
                              have f13 := gF 120 (haf ⟨13, .data⟩ (by simp) rfl); have f20 := gF 127 (haf ⟨20, .data⟩ (by simp) rfl); refine skip_goodIn _ (wanted_none rfl) ?_; rotate_left
                              all_goals (clear haf ho hsz2; intro K hK; try simp only [List.getD_cons_succ, List.getD_cons_zero] at *; simp only [List.getElem_toArray, List.getElem_cons_succ, List.getElem_cons_zero] at hK ⊢; go_simp; first | exact hK _ _ ⟨Below.refl _ _, hW, rfl⟩ | exact hK _ _ ⟨Below.refl _ _, hW, (by simp only [Value.bool.injEq, decide_eq_false_iff_not]; omega)⟩)
                          · as_aux_lemma =>
                              intro aa w9 hW hdf hsz hout hall
                              have hat := tmps_seq (lo := 107) (by kernel_rfl) (by kernel_rfl) hsz (by kernel_rfl) hout hall
                              obtain ⟨tt, dd⟩ := aa
                              simp only [List.take_succ_cons, List.take_zero, List.drop_succ_cons, List.drop_zero, List.cons_append, List.nil_append, List.length_cons, List.length_nil, Nat.reduceAdd] at hat hdf
                              subst hat hdf
                              clear hsz hout hall
                              have brw := boxed_below HBRU.out hN1U hW
                              have cr := brw.cell
                              have fr := brw.frozen
                              gi_wp2
                              refine ⟨((ko_belowF hW).trans (KeepsOthers.setCell _ _ _)).from _, ?_⟩
                              exact ⟨rfl, (fun h => HNO.out (by rw [← HMP.out]; exact h))⟩
                        | false =>
                          have HYES : Hid (prei.map (fun x => lcF x.1) ++ [(x1i, ⟨ki, ⟨rli, rki, rkeyi, rvali⟩, ⟨pli, pki, ppi, pni, pkeyi⟩, ⟨eci, ebi, efi, esi⟩⟩)] <+: wn.map lcF) := hd (pre_snoc_yes HPRE.out (by
                            rw [HPL.out, HLC.out, hbf.1 rfl]))
                          have HW1 : Hid ((prei.length : Int) + 1 = (((prei ++ [(⟨(x1i, x2i, ⟨ki, ⟨rli, rki, rkeyi, rvali⟩, ⟨pli, pki, ppi, pni, pkeyi⟩, ⟨eci, ebi, efi, esi⟩⟩), hxi⟩ : PL l.length)]).length : Nat) : Int)) := hd (by
                            rw [List.length_append, List.length_singleton]; omega)
                          clear hbf
                          gi_wp2
                          refine region_skipIn (fun i9 v9 _ => v9 = [.int .i64 (prei.length : Int), .slice (some ⟨gw, 0, none⟩) wn.length xc, .int .i64 (wn.length : Int), .bool false, .bool false, .int .i64 (x1i : Int), .slice (some ⟨gw, 0, none⟩) wn.length xc, .int .i64 (prei.length : Int), .pointer (some ⟨gw, prei.length * 16, none⟩), .pointer (some ⟨gw, prei.length * 16, none⟩), .int .i64 (x1i : Int), .bool false, .bool false, .bool false, .agg #[.int .i64 ki, .int .u64 (rli : Int), .int .i64 rki, .string rkeyi, .string rvali, .int .u64 (pli : Int), .int .i64 pki, .int .i64 ppi, .int .i64 pni, .string pkeyi, .int .i64 eci, .int .i64 ebi, .int .i64 efi, .int .u32 (esi : Int)], .slice (some ⟨gw, 0, none⟩) wn.length xc, .int .i64 (prei.length : Int), .pointer (some ⟨gw, prei.length * 16, none⟩), .pointer (some ⟨gw, prei.length * 16 + 2, none⟩), .agg #[.int .i64 kd0i, .int .u64 (rl0i : Int), .int .i64 rk0i, .string rkey0i, .string rval0i, .int .u64 (pl0i : Int), .int .i64 pk0i, .int .i64 pp0i, .int .i64 pn0i, .string pkey0i, .int .i64 ec0i, .int .i64 eb0i, .int .i64 ef0i, .int .u32 (es0i : Int)], .bool false, .bool false].getD i9 undef) (fun w => Below Ui.heap.size Ui w) (fun _ => trivial) hmx (by kernel_rfl) (by kernel_rfl) ((Below.refl _ _).drew) (fun _ _ _ _ _ _ _ h => h) ?_ ?_
                          · as_aux_lemma =>
                              intro i9 o9 ho a9 w9 hW hdf hsz hout haf
                              have ee6 := gF 6 (hout 6 (notDst_spec (by kernel_rfl)))
                              have ee14 := gF 14 (hout 14 (notDst_spec (by kernel_rfl)))
                              have ee15 := gF 15 (hout 15 (notDst_spec (by kernel_rfl)))
                              have ee16 := gF 16 (hout 16 (notDst_spec (by kernel_rfl)))
                              simp only [Array.getD_eq_getD_getElem?, List.getElem?_toArray, List.getElem?_cons_succ, List.getElem?_cons_zero, Option.getD_some] at ee6 ee14 ee15 ee16
                              have hsz2 : a9.tmps.size = 220 := hsz
                              clear hout hsz hdf
                              have zzcn := (hW.cell (p := ⟨Kb, 0, none⟩) hPU).trans cn
                              have zzcq := (hW.cell (p := ⟨Q, 0, none⟩) hQU).trans cq
                              have zzr0 := (hW.cell (p := ⟨gw, prei.length * 16, none⟩) hgU).trans r0
                              have zzk0 := (hW.cell (p := ⟨Bxi, 0, none⟩) hBxU).trans k0
                              have zzk1 := (hW.cell (p := ⟨Bxi, 1, none⟩) hBxU).trans k1
                              have zzk2 := (hW.cell (p := ⟨Bxi, 2, none⟩) hBxU).trans k2
                              have zzk3 := (hW.cell (p := ⟨Bxi, 3, none⟩) hBxU).trans k3
                              have zzk4 := (hW.cell (p := ⟨Bxi, 4, none⟩) hBxU).trans k4
                              have zzk5 := (hW.cell (p := ⟨Bxi, 5, none⟩) hBxU).trans k5
                              have zzk6 := (hW.cell (p := ⟨Bxi, 6, none⟩) hBxU).trans k6
                              have zzk7 := (hW.cell (p := ⟨Bxi, 7, none⟩) hBxU).trans k7
                              have zzk8 := (hW.cell (p := ⟨Bxi, 8, none⟩) hBxU).trans k8
                              have zzk9 := (hW.cell (p := ⟨Bxi, 9, none⟩) hBxU).trans k9
                              have zzk10 := (hW.cell (p := ⟨Bxi, 10, none⟩) hBxU).trans k10
                              have zzk11 := (hW.cell (p := ⟨Bxi, 11, none⟩) hBxU).trans k11
                              have zzk12 := (hW.cell (p := ⟨Bxi, 12, none⟩) hBxU).trans k12
                              have zzk13 := (hW.cell (p := ⟨Bxi, 13, none⟩) hBxU).trans k13
                              have zzr2 := (hW.cell (p := ⟨gw, prei.length * 16 + 2, none⟩) hgU).trans r2
                              have zzr3 := (hW.cell (p := ⟨gw, prei.length * 16 + 3, none⟩) hgU).trans r3
                              have zzr4 := (hW.cell (p := ⟨gw, prei.length * 16 + 4, none⟩) hgU).trans r4
                              have zzr5 := (hW.cell (p := ⟨gw, prei.length * 16 + 5, none⟩) hgU).trans r5
                              have zzr6 := (hW.cell (p := ⟨gw, prei.length * 16 + 6, none⟩) hgU).trans r6
                              have zzr7 := (hW.cell (p := ⟨gw, prei.length * 16 + 7, none⟩) hgU).trans r7
                              have zzr8 := (hW.cell (p := ⟨gw, prei.length * 16 + 8, none⟩) hgU).trans r8
                              have zzr9 := (hW.cell (p := ⟨gw, prei.length * 16 + 9, none⟩) hgU).trans r9
                              have zzr10 := (hW.cell (p := ⟨gw, prei.length * 16 + 10, none⟩) hgU).trans r10
                              have zzr11 := (hW.cell (p := ⟨gw, prei.length * 16 + 11, none⟩) hgU).trans r11
                              have zzr12 := (hW.cell (p := ⟨gw, prei.length * 16 + 12, none⟩) hgU).trans r12
                              have zzr13 := (hW.cell (p := ⟨gw, prei.length * 16 + 13, none⟩) hgU).trans r13
                              have zzr14 := (hW.cell (p := ⟨gw, prei.length * 16 + 14, none⟩) hgU).trans r14
                              have zzr15 := (hW.cell (p := ⟨gw, prei.length * 16 + 15, none⟩) hgU).trans r15
                              refine (match i9, ho, haf with | 0, ho, haf => ?_ | 1, ho, haf => ?_ | 2, ho, haf => ?_ | 3, ho, haf => ?_ | 4, ho, haf => ?_ | 5, ho, haf => ?_ | 6, ho, haf => ?_ | 7, ho, haf => ?_ | 8, ho, haf => ?_ | 9, ho, haf => ?_ | 10, ho, haf => ?_ | 11, ho, haf => ?_ | 12, ho, haf => ?_ | 13, ho, haf => ?_ | 14, ho, haf => ?_ | 15, ho, haf => ?_ | 16, ho, haf => ?_ | 17, ho, haf => ?_ | 18, ho, haf => ?_ | 19, ho, haf => ?_ | 20, ho, haf => ?_ | 21, ho, haf => ?_ | n + 22, ho, haf => absurd ho (by simp))
                              all_goals obtain rfl := Option.some.inj ho
                              refine skip_goodIn _ (wanted_none rfl) ?_; rotate_left
                              refine skip_goodIn _ (wanted_none rfl) ?_; rotate_left
                              have f1 := gF 108 (haf ⟨1, .data⟩ (by simp) rfl); refine skip_goodIn _ (wanted_none rfl) ?_; rotate_left
                              have f0 := gF 107 (haf ⟨0, .data⟩ (by simp) rfl); have f2 := gF 109 (haf ⟨2, .data⟩ (by simp) rfl); refine skip_goodIn _ (wanted_none rfl) ?_; rotate_left
                              have f3 := gF 110 (haf ⟨3, .data⟩ (by simp) rfl); refine skip_goodIn _ (wanted_none rfl) ?_; rotate_left
                              refine skip_goodIn _ (wanted_some rfl (yielded_of (d := 111) rfl (by omega) (haf ⟨4, .guard⟩ (by simp) rfl))) ?_; rotate_left
                              refine skip_goodIn _ (wanted_some rfl (yielded_of (d := 111) rfl (by omega) (haf ⟨4, .guard⟩ (by simp) rfl))) ?_; rotate_left
                              refine skip_goodIn _ (wanted_some rfl (yielded_of (d := 111) rfl (by omega) (haf ⟨4, .guard⟩ (by simp) rfl))) ?_; rotate_left
                              have f6 := gF 113 (haf ⟨6, .data⟩ (by simp) rfl); have f7 := gF 114 (haf ⟨7, .data⟩ (by simp) rfl); refine skip_goodIn _ (wanted_some rfl (yielded_of (d := 111) rfl (by omega) (haf ⟨4, .guard⟩ (by simp) rfl))) ?_; rotate_left
                              have f8 := gF 115 (haf ⟨8, .data⟩ (by simp) rfl); refine skip_goodIn _ (wanted_some rfl (yielded_of (d := 111) rfl (by omega) (haf ⟨4, .guard⟩ (by simp) rfl))) ?_; rotate_left
                              have f9 := gF 116 (haf ⟨9, .data⟩ (by simp) rfl); refine skip_goodIn _ (wanted_some rfl (yielded_of (d := 111) rfl (by omega) (haf ⟨4, .guard⟩ (by simp) rfl))) ?_; rotate_left
                              have f5 := gF 112 (haf ⟨5, .data⟩ (by simp) rfl); have f10 := gF 117 (haf ⟨10, .data⟩ (by simp) rfl); refine skip_goodIn _ (wanted_some rfl (yielded_of (d := 111) rfl (by omega) (haf ⟨4, .guard⟩ (by simp) rfl))) ?_; rotate_left
                              have f4 := gF 111 (haf ⟨4, .data⟩ (by simp) rfl); have f11 := gF 118 (haf ⟨11, .data⟩ (by simp) rfl); refine skip_goodIn _ (wanted_none rfl) ?_; rotate_left
                              have f12 := gF 119 (haf ⟨12, .data⟩ (by simp) rfl); refine skip_goodIn _ (wanted_none rfl) ?_; rotate_left
                              refine skip_goodIn _ (wanted_some rfl (yielded_of (d := 120) rfl (by omega) (haf ⟨13, .guard⟩ (by simp) rfl))) ?_; rotate_left
                              refine skip_goodIn _ (wanted_some rfl (yielded_of (d := 120) rfl (by omega) (haf ⟨13, .guard⟩ (by simp) rfl))) ?_; rotate_left
                              refine skip_goodIn _ (wanted_some rfl (yielded_of (d := 120) rfl (by omega) (haf ⟨13, .guard⟩ (by simp) rfl))) ?_; rotate_left
                              have f15 := gF 122 (haf ⟨15, .data⟩ (by simp) rfl); have f16 := gF 123 (haf ⟨16, .data⟩ (by simp) rfl); refine skip_goodIn _ (wanted_some rfl (yielded_of (d := 120) rfl (by omega) (haf ⟨13, .guard⟩ (by simp) rfl))) ?_; rotate_left
                              have f17 := gF 124 (haf ⟨17, .data⟩ (by simp) rfl); refine skip_goodIn _ (wanted_some rfl (yielded_of (d := 120) rfl (by omega) (haf ⟨13, .guard⟩ (by simp) rfl))) ?_; rotate_left
                              have f18 := gF 125 (haf ⟨18, .data⟩ (by simp) rfl); refine skip_goodIn _ (wanted_some rfl (yielded_of (d := 120) rfl (by omega) (haf ⟨13, .guard⟩ (by simp) rfl))) ?_; rotate_left
                              have f14 := gF 121 (haf ⟨14, .data⟩ (by simp) rfl); have f19 := gF 126 (haf ⟨19, .data⟩ (by simp) rfl); refine skip_goodIn _ (wanted_some rfl (yielded_of (d := 120) rfl (by omega) (haf ⟨13, .guard⟩ (by simp) rfl))) ?_; rotate_left
                              have f13 := gF 120 (haf ⟨13, .data⟩ (by simp) rfl); have f20 := gF 127 (haf ⟨20, .data⟩ (by simp) rfl); refine skip_goodIn _ (wanted_none rfl) ?_; rotate_left
                              all_goals (clear haf ho hsz2; intro K hK; try simp only [List.getD_cons_succ, List.getD_cons_zero] at *; simp only [List.getElem_toArray, List.getElem_cons_succ, List.getElem_cons_zero] at hK ⊢; go_simp; first | exact hK _ _ ⟨Below.refl _ _, hW, rfl⟩ | exact hK _ _ ⟨Below.refl _ _, hW, (by simp only [Value.bool.injEq, decide_eq_false_iff_not]; omega)⟩)
                          · as_aux_lemma =>
                              intro aa w9 hW hdf hsz hout hall
                              have hat := tmps_seq (lo := 107) (by kernel_rfl) (by kernel_rfl) hsz (by kernel_rfl) hout hall
                              obtain ⟨tt, dd⟩ := aa
                              simp only [List.take_succ_cons, List.take_zero, List.drop_succ_cons, List.drop_zero, List.cons_append, List.nil_append, List.length_cons, List.length_nil, Nat.reduceAdd] at hat hdf
                              subst hat hdf
                              clear hsz hout hall
                              have bnw := boxed_below HBNU.out hPU hW
                              have cnw := bnw.cell
                              have fnw := bnw.frozen
                              gi_wp2
                              rw [HW1.out]
                              refine ⟨((ko_belowF hW).trans (KeepsOthers.setCell _ _ _)).from _, (KeepS.of_below hW (fun ki hk => ?_)).setCell (p := ⟨Kb, 0, none⟩) (fun h => ?_) _, (show Boxed (w9.setCell ⟨Kb, 0, none⟩ _) Kb _ _ from bnw.set _), ?_, (HB.out.trans (KeepS.of_below hW (fun ki hk => by have := hk.1; omega))).setCell (p := ⟨Kb, 0, none⟩) (fun h => absurd rfl h.2) _, by have := hW.size; simp only [World.setCell, Array.size_modify] <;> omega, HXM.out⟩
                              · rcases hk with hk | hk
                                · have := hk.1; omega
                                · exact (HX.out _ hk).2
                              · rcases h with h | h
                                · exact h.2 rfl
                                · have := HXM.out _ h; have h2 : Kb + 1 ≤ Kb := this; omega
                              · rw [HMP.out]; exact HYES.out
                      · have HNO : Hid (¬ prei.map (fun x => lcF x.1) ++ [(x1i, ⟨ki, ⟨rli, rki, rkeyi, rvali⟩, ⟨pli, pki, ppi, pni, pkeyi⟩, ⟨eci, ebi, efi, esi⟩⟩)] <+: wn.map lcF) := hd (pre_snoc_no (by
                          rw [HPL.out]
                          intro e
                          have e2 := HLC.out.symm.trans e
                          injection e2 with e2
                          injection e2 with e2 _
                          exact hp e2.symm))
                        have hpd : ((x1i : Int) != (p0i : Int)) = true := by simp; omega
                        clear hbf hp
                        gi_wp2
                        refine region_skipIn (fun i9 v9 _ => v9 = [.int .i64 (prei.length : Int), .slice (some ⟨gw, 0, none⟩) wn.length xc, .int .i64 (wn.length : Int), .bool false, .bool false, .int .i64 (x1i : Int), .slice (some ⟨gw, 0, none⟩) wn.length xc, .int .i64 (prei.length : Int), .pointer (some ⟨gw, prei.length * 16, none⟩), .pointer (some ⟨gw, prei.length * 16, none⟩), .int .i64 (p0i : Int), .bool true, .bool true, .bool true, undef, undef, undef, undef, undef, undef, undef, .bool true].getD i9 undef) (fun w => Below Ui.heap.size Ui w) (fun _ => trivial) hmx (by kernel_rfl) (by kernel_rfl) ((Below.refl _ _).drew) (fun _ _ _ _ _ _ _ h => h) ?_ ?_
                        · as_aux_lemma =>
                            intro i9 o9 ho a9 w9 hW hdf hsz hout haf
                            have ee6 := gF 6 (hout 6 (notDst_spec (by kernel_rfl)))
                            have ee14 := gF 14 (hout 14 (notDst_spec (by kernel_rfl)))
                            have ee15 := gF 15 (hout 15 (notDst_spec (by kernel_rfl)))
                            simp only [Array.getD_eq_getD_getElem?, List.getElem?_toArray, List.getElem?_cons_succ, List.getElem?_cons_zero, Option.getD_some] at ee6 ee14 ee15
                            have hsz2 : a9.tmps.size = 220 := hsz
                            clear hout hsz hdf
                            have zzcn := (hW.cell (p := ⟨Kb, 0, none⟩) hPU).trans cn
                            have zzcq := (hW.cell (p := ⟨Q, 0, none⟩) hQU).trans cq
                            have zzr0 := (hW.cell (p := ⟨gw, prei.length * 16, none⟩) hgU).trans r0
                            refine (match i9, ho, haf with | 0, ho, haf => ?_ | 1, ho, haf => ?_ | 2, ho, haf => ?_ | 3, ho, haf => ?_ | 4, ho, haf => ?_ | 5, ho, haf => ?_ | 6, ho, haf => ?_ | 7, ho, haf => ?_ | 8, ho, haf => ?_ | 9, ho, haf => ?_ | 10, ho, haf => ?_ | 11, ho, haf => ?_ | 12, ho, haf => ?_ | 13, ho, haf => ?_ | 14, ho, haf => ?_ | 15, ho, haf => ?_ | 16, ho, haf => ?_ | 17, ho, haf => ?_ | 18, ho, haf => ?_ | 19, ho, haf => ?_ | 20, ho, haf => ?_ | 21, ho, haf => ?_ | n + 22, ho, haf => absurd ho (by simp))
                            all_goals obtain rfl := Option.some.inj ho
                            refine skip_goodIn _ (wanted_none rfl) ?_; rotate_left
                            refine skip_goodIn _ (wanted_none rfl) ?_; rotate_left
                            have f1 := gF 108 (haf ⟨1, .data⟩ (by simp) rfl); refine skip_goodIn _ (wanted_none rfl) ?_; rotate_left
                            have f0 := gF 107 (haf ⟨0, .data⟩ (by simp) rfl); have f2 := gF 109 (haf ⟨2, .data⟩ (by simp) rfl); refine skip_goodIn _ (wanted_none rfl) ?_; rotate_left
                            have f3 := gF 110 (haf ⟨3, .data⟩ (by simp) rfl); refine skip_goodIn _ (wanted_none rfl) ?_; rotate_left
                            refine skip_goodIn _ (wanted_some rfl (yielded_of (d := 111) rfl (by omega) (haf ⟨4, .guard⟩ (by simp) rfl))) ?_; rotate_left
                            refine skip_goodIn _ (wanted_some rfl (yielded_of (d := 111) rfl (by omega) (haf ⟨4, .guard⟩ (by simp) rfl))) ?_; rotate_left
                            refine skip_goodIn _ (wanted_some rfl (yielded_of (d := 111) rfl (by omega) (haf ⟨4, .guard⟩ (by simp) rfl))) ?_; rotate_left
                            have f6 := gF 113 (haf ⟨6, .data⟩ (by simp) rfl); have f7 := gF 114 (haf ⟨7, .data⟩ (by simp) rfl); refine skip_goodIn _ (wanted_some rfl (yielded_of (d := 111) rfl (by omega) (haf ⟨4, .guard⟩ (by simp) rfl))) ?_; rotate_left
                            have f8 := gF 115 (haf ⟨8, .data⟩ (by simp) rfl); refine skip_goodIn _ (wanted_some rfl (yielded_of (d := 111) rfl (by omega) (haf ⟨4, .guard⟩ (by simp) rfl))) ?_; rotate_left
                            have f9 := gF 116 (haf ⟨9, .data⟩ (by simp) rfl); refine skip_goodIn _ (wanted_some rfl (yielded_of (d := 111) rfl (by omega) (haf ⟨4, .guard⟩ (by simp) rfl))) ?_; rotate_left
                            have f5 := gF 112 (haf ⟨5, .data⟩ (by simp) rfl); have f10 := gF 117 (haf ⟨10, .data⟩ (by simp) rfl); refine skip_goodIn _ (wanted_some rfl (yielded_of (d := 111) rfl (by omega) (haf ⟨4, .guard⟩ (by simp) rfl))) ?_; rotate_left
                            have f4 := gF 111 (haf ⟨4, .data⟩ (by simp) rfl); have f11 := gF 118 (haf ⟨11, .data⟩ (by simp) rfl); refine skip_goodIn _ (wanted_none rfl) ?_; rotate_left
                            have f12 := gF 119 (haf ⟨12, .data⟩ (by simp) rfl); refine skip_goodIn _ (wanted_none rfl) ?_; rotate_left
                            · exact skip_no (b := true) rfl (yielded_of (d := 120) rfl (by omega) (haf ⟨13, .guard⟩ (by simp) rfl)) rfl
                            · exact skip_no (b := true) rfl (yielded_of (d := 120) rfl (by omega) (haf ⟨13, .guard⟩ (by simp) rfl)) rfl
                            · exact skip_no (b := true) rfl (yielded_of (d := 120) rfl (by omega) (haf ⟨13, .guard⟩ (by simp) rfl)) rfl
                            · exact skip_no (b := true) rfl (yielded_of (d := 120) rfl (by omega) (haf ⟨13, .guard⟩ (by simp) rfl)) rfl
                            · exact skip_no (b := true) rfl (yielded_of (d := 120) rfl (by omega) (haf ⟨13, .guard⟩ (by simp) rfl)) rfl
                            · exact skip_no (b := true) rfl (yielded_of (d := 120) rfl (by omega) (haf ⟨13, .guard⟩ (by simp) rfl)) rfl
                            · exact skip_no (b := true) rfl (yielded_of (d := 120) rfl (by omega) (haf ⟨13, .guard⟩ (by simp) rfl)) rfl
                            have f13 := gF 120 (haf ⟨13, .data⟩ (by simp) rfl); have f20 := gF 127 (haf ⟨20, .data⟩ (by simp) rfl); refine skip_goodIn _ (wanted_none rfl) ?_; rotate_left
                            all_goals (clear haf ho hsz2; intro K hK; try simp only [List.getD_cons_succ, List.getD_cons_zero] at *; simp only [List.getElem_toArray, List.getElem_cons_succ, List.getElem_cons_zero] at hK ⊢; go_simp; first | exact hK _ _ ⟨Below.refl _ _, hW, rfl⟩ | exact hK _ _ ⟨Below.refl _ _, hW, (by simp only [Value.bool.injEq, decide_eq_false_iff_not]; omega)⟩)
                        · as_aux_lemma =>
                            intro aa w9 hW hdf hsz hout hall
                            have hat := tmps_seq (lo := 107) (by kernel_rfl) (by kernel_rfl) hsz (by kernel_rfl) hout hall
                            obtain ⟨tt, dd⟩ := aa
                            simp only [List.take_succ_cons, List.take_zero, List.drop_succ_cons, List.drop_zero, List.cons_append, List.nil_append, List.length_cons, List.length_nil, Nat.reduceAdd] at hat hdf
                            subst hat hdf
                            clear hsz hout hall
                            have brw := boxed_below HBRU.out hN1U hW
                            have cr := brw.cell
                            have fr := brw.frozen
                            gi_wp2
                            refine ⟨((ko_belowF hW).trans (KeepsOthers.setCell _ _ _)).from _, ?_⟩
                            exact ⟨rfl, (fun h => HNO.out (by rw [← HMP.out]; exact h))⟩
                    · have hge : (prei.length : Int) ≥ (wn.length : Int) := by omega
                      have HNO : Hid (¬ prei.map (fun x => lcF x.1) ++ [(x1i, ⟨ki, ⟨rli, rki, rkeyi, rvali⟩, ⟨pli, pki, ppi, pni, pkeyi⟩, ⟨eci, ebi, efi, esi⟩⟩)] <+: wn.map lcF) := hd (pre_snoc_no (by
                        rw [HPL.out, List.getElem?_eq_none (by rw [List.length_map]; omega)]
                        intro e
                        cases e))
                      gi_wp2
                      refine region_skipIn (fun i9 v9 _ => v9 = [.int .i64 (prei.length : Int), .slice (some ⟨gw, 0, none⟩) wn.length xc, .int .i64 (wn.length : Int), .bool true, .bool true, undef, undef, undef, undef, undef, undef, undef, .bool true, .bool true, undef, undef, undef, undef, undef, undef, undef, .bool true].getD i9 undef) (fun w => Below Ui.heap.size Ui w) (fun _ => trivial) hmx (by kernel_rfl) (by kernel_rfl) ((Below.refl _ _).drew) (fun _ _ _ _ _ _ _ h => h) ?_ ?_
                      · as_aux_lemma =>
                          intro i9 o9 ho a9 w9 hW hdf hsz hout haf
                          have ee6 := gF 6 (hout 6 (notDst_spec (by kernel_rfl)))
                          have ee14 := gF 14 (hout 14 (notDst_spec (by kernel_rfl)))
                          simp only [Array.getD_eq_getD_getElem?, List.getElem?_toArray, List.getElem?_cons_succ, List.getElem?_cons_zero, Option.getD_some] at ee6 ee14
                          have hsz2 : a9.tmps.size = 220 := hsz
                          clear hout hsz hdf
                          have zzcn := (hW.cell (p := ⟨Kb, 0, none⟩) hPU).trans cn
                          have zzcq := (hW.cell (p := ⟨Q, 0, none⟩) hQU).trans cq
                          refine (match i9, ho, haf with | 0, ho, haf => ?_ | 1, ho, haf => ?_ | 2, ho, haf => ?_ | 3, ho, haf => ?_ | 4, ho, haf => ?_ | 5, ho, haf => ?_ | 6, ho, haf => ?_ | 7, ho, haf => ?_ | 8, ho, haf => ?_ | 9, ho, haf => ?_ | 10, ho, haf => ?_ | 11, ho, haf => ?_ | 12, ho, haf => ?_ | 13, ho, haf => ?_ | 14, ho, haf => ?_ | 15, ho, haf => ?_ | 16, ho, haf => ?_ | 17, ho, haf => ?_ | 18, ho, haf => ?_ | 19, ho, haf => ?_ | 20, ho, haf => ?_ | 21, ho, haf => ?_ | n + 22, ho, haf => absurd ho (by simp))
                          all_goals obtain rfl := Option.some.inj ho
                          refine skip_goodIn _ (wanted_none rfl) ?_; rotate_left
                          refine skip_goodIn _ (wanted_none rfl) ?_; rotate_left
                          have f1 := gF 108 (haf ⟨1, .data⟩ (by simp) rfl); refine skip_goodIn _ (wanted_none rfl) ?_; rotate_left
                          have f0 := gF 107 (haf ⟨0, .data⟩ (by simp) rfl); have f2 := gF 109 (haf ⟨2, .data⟩ (by simp) rfl); refine skip_goodIn _ (wanted_none rfl) ?_; rotate_left
                          have f3 := gF 110 (haf ⟨3, .data⟩ (by simp) rfl); refine skip_goodIn _ (wanted_none rfl) ?_; rotate_left
                          · exact skip_no (b := true) rfl (yielded_of (d := 111) rfl (by omega) (haf ⟨4, .guard⟩ (by simp) rfl)) rfl
                          · exact skip_no (b := true) rfl (yielded_of (d := 111) rfl (by omega) (haf ⟨4, .guard⟩ (by simp) rfl)) rfl
                          · exact skip_no (b := true) rfl (yielded_of (d := 111) rfl (by omega) (haf ⟨4, .guard⟩ (by simp) rfl)) rfl
                          · exact skip_no (b := true) rfl (yielded_of (d := 111) rfl (by omega) (haf ⟨4, .guard⟩ (by simp) rfl)) rfl
                          · exact skip_no (b := true) rfl (yielded_of (d := 111) rfl (by omega) (haf ⟨4, .guard⟩ (by simp) rfl)) rfl
                          · exact skip_no (b := true) rfl (yielded_of (d := 111) rfl (by omega) (haf ⟨4, .guard⟩ (by simp) rfl)) rfl
                          · exact skip_no (b := true) rfl (yielded_of (d := 111) rfl (by omega) (haf ⟨4, .guard⟩ (by simp) rfl)) rfl
                          have f4 := gF 111 (haf ⟨4, .data⟩ (by simp) rfl); have f11 := gF 118 (haf ⟨11, .data⟩ (by simp) rfl); refine skip_goodIn _ (wanted_none rfl) ?_; rotate_left
                          have f12 := gF 119 (haf ⟨12, .data⟩ (by simp) rfl); refine skip_goodIn _ (wanted_none rfl) ?_; rotate_left
                          · exact skip_no (b := true) rfl (yielded_of (d := 120) rfl (by omega) (haf ⟨13, .guard⟩ (by simp) rfl)) rfl
                          · exact skip_no (b := true) rfl (yielded_of (d := 120) rfl (by omega) (haf ⟨13, .guard⟩ (by simp) rfl)) rfl
                          · exact skip_no (b := true) rfl (yielded_of (d := 120) rfl (by omega) (haf ⟨13, .guard⟩ (by simp) rfl)) rfl
                          · exact skip_no (b := true) rfl (yielded_of (d := 120) rfl (by omega) (haf ⟨13, .guard⟩ (by simp) rfl)) rfl
                          · exact skip_no (b := true) rfl (yielded_of (d := 120) rfl (by omega) (haf ⟨13, .guard⟩ (by simp) rfl)) rfl
                          · exact skip_no (b := true) rfl (yielded_of (d := 120) rfl (by omega) (haf ⟨13, .guard⟩ (by simp) rfl)) rfl
                          · exact skip_no (b := true) rfl (yielded_of (d := 120) rfl (by omega) (haf ⟨13, .guard⟩ (by simp) rfl)) rfl
                          have f13 := gF 120 (haf ⟨13, .data⟩ (by simp) rfl); have f20 := gF 127 (haf ⟨20, .data⟩ (by simp) rfl); refine skip_goodIn _ (wanted_none rfl) ?_; rotate_left
                          all_goals (clear haf ho hsz2; intro K hK; try simp only [List.getD_cons_succ, List.getD_cons_zero] at *; simp only [List.getElem_toArray, List.getElem_cons_succ, List.getElem_cons_zero] at hK ⊢; go_simp; first | exact hK _ _ ⟨Below.refl _ _, hW, rfl⟩ | exact hK _ _ ⟨Below.refl _ _, hW, (by simp only [Value.bool.injEq, decide_eq_true_eq]; omega)⟩)
                      · as_aux_lemma =>
                          intro aa w9 hW hdf hsz hout hall
                          have hat := tmps_seq (lo := 107) (by kernel_rfl) (by kernel_rfl) hsz (by kernel_rfl) hout hall
                          obtain ⟨tt, dd⟩ := aa
                          simp only [List.take_succ_cons, List.take_zero, List.drop_succ_cons, List.drop_zero, List.cons_append, List.nil_append, List.length_cons, List.length_nil, Nat.reduceAdd] at hat hdf
                          subst hat hdf
                          clear hsz hout hall
                          have brw := boxed_below HBRU.out hN1U hW
                          have cr := brw.cell
                          have fr := brw.frozen
                          gi_wp2
                          refine ⟨((ko_belowF hW).trans (KeepsOthers.setCell _ _ _)).from _, ?_⟩
                          exact ⟨rfl, (fun h => HNO.out (by rw [← HMP.out]; exact h))⟩
        · have HNO : Hid (¬ pre.map (fun x => lcF x.1) ++ [(x1, ⟨k, ⟨rl, rk, rkey, rval⟩, ⟨pl, pk, pp, pn, pkey⟩, ⟨ec, eb, ef, es⟩⟩)] <+: wn.map lcF) := hd (pre_snoc_no (by
            rw [HPL.out]
            intro e
            have e2 := HLC.out.symm.trans e
            injection e2 with e2
            injection e2 with e2 _
            exact hp e2.symm))
          have hpd : ((x1 : Int) != (p0 : Int)) = true := by simp; omega
          clear hbf hp
          gi_wp2
          refine region_skipIn (fun i9 v9 _ => v9 = [.int .i64 (pre.length : Int), .slice (some ⟨gw, 0, none⟩) wn.length xc, .int .i64 (wn.length : Int), .bool false, .bool false, .int .i64 (x1 : Int), .slice (some ⟨gw, 0, none⟩) wn.length xc, .int .i64 (pre.length : Int), .pointer (some ⟨gw, pre.length * 16, none⟩), .pointer (some ⟨gw, pre.length * 16, none⟩), .int .i64 (p0 : Int), .bool true, .bool true, .bool true, undef, undef, undef, undef, undef, undef, undef, .bool true].getD i9 undef) (fun w => Below U.heap.size U w) (fun _ => trivial) hmx (by kernel_rfl) (by kernel_rfl) ((Below.refl _ _).drew) (fun _ _ _ _ _ _ _ h => h) ?_ ?_
          · as_aux_lemma =>
              intro i9 o9 ho a9 w9 hW hdf hsz hout haf
              have ee6 := gF 6 (hout 6 (notDst_spec (by kernel_rfl)))
              have ee9 := gF 9 (hout 9 (notDst_spec (by kernel_rfl)))
              have ee12 := gF 12 (hout 12 (notDst_spec (by kernel_rfl)))
              simp only [Array.getD_eq_getD_getElem?, List.getElem?_toArray, List.getElem?_cons_succ, List.getElem?_cons_zero, Option.getD_some] at ee6 ee9 ee12
              have hsz2 : a9.tmps.size = 220 := hsz
              clear hout hsz hdf
              have zzcn := (hW.cell (p := ⟨P, 0, none⟩) hPU).trans cn
              have zzcq := (hW.cell (p := ⟨Q, 0, none⟩) hQU).trans cq
              have zzr0 := (hW.cell (p := ⟨gw, pre.length * 16, none⟩) hgU).trans r0
              refine (match i9, ho, haf with | 0, ho, haf => ?_ | 1, ho, haf => ?_ | 2, ho, haf => ?_ | 3, ho, haf => ?_ | 4, ho, haf => ?_ | 5, ho, haf => ?_ | 6, ho, haf => ?_ | 7, ho, haf => ?_ | 8, ho, haf => ?_ | 9, ho, haf => ?_ | 10, ho, haf => ?_ | 11, ho, haf => ?_ | 12, ho, haf => ?_ | 13, ho, haf => ?_ | 14, ho, haf => ?_ | 15, ho, haf => ?_ | 16, ho, haf => ?_ | 17, ho, haf => ?_ | 18, ho, haf => ?_ | 19, ho, haf => ?_ | 20, ho, haf => ?_ | 21, ho, haf => ?_ | n + 22, ho, haf => absurd ho (by simp))
              all_goals obtain rfl := Option.some.inj ho
              refine skip_goodIn _ (wanted_none rfl) ?_; rotate_left
              refine skip_goodIn _ (wanted_none rfl) ?_; rotate_left
              have f1 := gF 79 (haf ⟨1, .data⟩ (by simp) rfl); refine skip_goodIn _ (wanted_none rfl) ?_; rotate_left
              have f0 := gF 78 (haf ⟨0, .data⟩ (by simp) rfl); have f2 := gF 80 (haf ⟨2, .data⟩ (by simp) rfl); refine skip_goodIn _ (wanted_none rfl) ?_; rotate_left
              have f3 := gF 81 (haf ⟨3, .data⟩ (by simp) rfl); refine skip_goodIn _ (wanted_none rfl) ?_; rotate_left
              refine skip_goodIn _ (wanted_some rfl (yielded_of (d := 82) rfl (by omega) (haf ⟨4, .guard⟩ (by simp) rfl))) ?_; rotate_left
              refine skip_goodIn _ (wanted_some rfl (yielded_of (d := 82) rfl (by omega) (haf ⟨4, .guard⟩ (by simp) rfl))) ?_; rotate_left
              refine skip_goodIn _ (wanted_some rfl (yielded_of (d := 82) rfl (by omega) (haf ⟨4, .guard⟩ (by simp) rfl))) ?_; rotate_left
              have f6 := gF 84 (haf ⟨6, .data⟩ (by simp) rfl); have f7 := gF 85 (haf ⟨7, .data⟩ (by simp) rfl); refine skip_goodIn _ (wanted_some rfl (yielded_of (d := 82) rfl (by omega) (haf ⟨4, .guard⟩ (by simp) rfl))) ?_; rotate_left
              have f8 := gF 86 (haf ⟨8, .data⟩ (by simp) rfl); refine skip_goodIn _ (wanted_some rfl (yielded_of (d := 82) rfl (by omega) (haf ⟨4, .guard⟩ (by simp) rfl))) ?_; rotate_left
              have f9 := gF 87 (haf ⟨9, .data⟩ (by simp) rfl); refine skip_goodIn _ (wanted_some rfl (yielded_of (d := 82) rfl (by omega) (haf ⟨4, .guard⟩ (by simp) rfl))) ?_; rotate_left
              have f5 := gF 83 (haf ⟨5, .data⟩ (by simp) rfl); have f10 := gF 88 (haf ⟨10, .data⟩ (by simp) rfl); refine skip_goodIn _ (wanted_some rfl (yielded_of (d := 82) rfl (by omega) (haf ⟨4, .guard⟩ (by simp) rfl))) ?_; rotate_left
              have f4 := gF 82 (haf ⟨4, .data⟩ (by simp) rfl); have f11 := gF 89 (haf ⟨11, .data⟩ (by simp) rfl); refine skip_goodIn _ (wanted_none rfl) ?_; rotate_left
              have f12 := gF 90 (haf ⟨12, .data⟩ (by simp) rfl); refine skip_goodIn _ (wanted_none rfl) ?_; rotate_left
              · exact skip_no (b := true) rfl (yielded_of (d := 91) rfl (by omega) (haf ⟨13, .guard⟩ (by simp) rfl)) rfl
              · exact skip_no (b := true) rfl (yielded_of (d := 91) rfl (by omega) (haf ⟨13, .guard⟩ (by simp) rfl)) rfl
              · exact skip_no (b := true) rfl (yielded_of (d := 91) rfl (by omega) (haf ⟨13, .guard⟩ (by simp) rfl)) rfl
              · exact skip_no (b := true) rfl (yielded_of (d := 91) rfl (by omega) (haf ⟨13, .guard⟩ (by simp) rfl)) rfl
              · exact skip_no (b := true) rfl (yielded_of (d := 91) rfl (by omega) (haf ⟨13, .guard⟩ (by simp) rfl)) rfl
              · exact skip_no (b := true) rfl (yielded_of (d := 91) rfl (by omega) (haf ⟨13, .guard⟩ (by simp) rfl)) rfl
              · exact skip_no (b := true) rfl (yielded_of (d := 91) rfl (by omega) (haf ⟨13, .guard⟩ (by simp) rfl)) rfl
              have f13 := gF 91 (haf ⟨13, .data⟩ (by simp) rfl); have f20 := gF 98 (haf ⟨20, .data⟩ (by simp) rfl); refine skip_goodIn _ (wanted_none rfl) ?_; rotate_left
              all_goals (clear haf ho hsz2; intro K hK; try simp only [List.getD_cons_succ, List.getD_cons_zero] at *; simp only [List.getElem_toArray, List.getElem_cons_succ, List.getElem_cons_zero] at hK ⊢; go_simp; first | exact hK _ _ ⟨Below.refl _ _, hW, rfl⟩ | exact hK _ _ ⟨Below.refl _ _, hW, (by simp only [Value.bool.injEq, decide_eq_false_iff_not]; omega)⟩)
          · as_aux_lemma =>
              intro aa w9 hW hdf hsz hout hall
              have hat := tmps_seq (lo := 78) (by kernel_rfl) (by kernel_rfl) hsz (by kernel_rfl) hout hall
              obtain ⟨tt, dd⟩ := aa
              simp only [List.take_succ_cons, List.take_zero, List.drop_succ_cons, List.drop_zero, List.cons_append, List.nil_append, List.length_cons, List.length_nil, Nat.reduceAdd] at hat hdf
              subst hat hdf
              clear hsz hout hall
              have brw := boxed_below HBRU.out hN1U hW
              have cr := brw.cell
              have fr := brw.frozen
              gi_wp2
              refine ⟨((ko_belowF hW).trans (KeepsOthers.setCell _ _ _)).from _, ?_⟩
              exact ⟨rfl, (fun h => HNO.out (by rw [← HMP.out]; exact h))⟩
      · have hge : (pre.length : Int) ≥ (wn.length : Int) := by omega
        have HNO : Hid (¬ pre.map (fun x => lcF x.1) ++ [(x1, ⟨k, ⟨rl, rk, rkey, rval⟩, ⟨pl, pk, pp, pn, pkey⟩, ⟨ec, eb, ef, es⟩⟩)] <+: wn.map lcF) := hd (pre_snoc_no (by
          rw [HPL.out, List.getElem?_eq_none (by rw [List.length_map]; omega)]
          intro e
          cases e))
        gi_wp2
        refine region_skipIn (fun i9 v9 _ => v9 = [.int .i64 (pre.length : Int), .slice xa wn.length xc, .int .i64 (wn.length : Int), .bool true, .bool true, undef, undef, undef, undef, undef, undef, undef, .bool true, .bool true, undef, undef, undef, undef, undef, undef, undef, .bool true].getD i9 undef) (fun w => Below U.heap.size U w) (fun _ => trivial) hmx (by kernel_rfl) (by kernel_rfl) ((Below.refl _ _).drew) (fun _ _ _ _ _ _ _ h => h) ?_ ?_
        · as_aux_lemma =>
            intro i9 o9 ho a9 w9 hW hdf hsz hout haf
            have ee6 := gF 6 (hout 6 (notDst_spec (by kernel_rfl)))
            have ee9 := gF 9 (hout 9 (notDst_spec (by kernel_rfl)))
            simp only [Array.getD_eq_getD_getElem?, List.getElem?_toArray, List.getElem?_cons_succ, List.getElem?_cons_zero, Option.getD_some] at ee6 ee9
            have hsz2 : a9.tmps.size = 220 := hsz
            clear hout hsz hdf
            have zzcn := (hW.cell (p := ⟨P, 0, none⟩) hPU).trans cn
            have zzcq := (hW.cell (p := ⟨Q, 0, none⟩) hQU).trans cq
            refine (match i9, ho, haf with | 0, ho, haf => ?_ | 1, ho, haf => ?_ | 2, ho, haf => ?_ | 3, ho, haf => ?_ | 4, ho, haf => ?_ | 5, ho, haf => ?_ | 6, ho, haf => ?_ | 7, ho, haf => ?_ | 8, ho, haf => ?_ | 9, ho, haf => ?_ | 10, ho, haf => ?_ | 11, ho, haf => ?_ | 12, ho, haf => ?_ | 13, ho, haf => ?_ | 14, ho, haf => ?_ | 15, ho, haf => ?_ | 16, ho, haf => ?_ | 17, ho, haf => ?_ | 18, ho, haf => ?_ | 19, ho, haf => ?_ | 20, ho, haf => ?_ | 21, ho, haf => ?_ | n + 22, ho, haf => absurd ho (by simp))
            all_goals obtain rfl := Option.some.inj ho
            refine skip_goodIn _ (wanted_none rfl) ?_; rotate_left
            refine skip_goodIn _ (wanted_none rfl) ?_; rotate_left
            have f1 := gF 79 (haf ⟨1, .data⟩ (by simp) rfl); refine skip_goodIn _ (wanted_none rfl) ?_; rotate_left
            have f0 := gF 78 (haf ⟨0, .data⟩ (by simp) rfl); have f2 := gF 80 (haf ⟨2, .data⟩ (by simp) rfl); refine skip_goodIn _ (wanted_none rfl) ?_; rotate_left
            have f3 := gF 81 (haf ⟨3, .data⟩ (by simp) rfl); refine skip_goodIn _ (wanted_none rfl) ?_; rotate_left
            · exact skip_no (b := true) rfl (yielded_of (d := 82) rfl (by omega) (haf ⟨4, .guard⟩ (by simp) rfl)) rfl
            · exact skip_no (b := true) rfl (yielded_of (d := 82) rfl (by omega) (haf ⟨4, .guard⟩ (by simp) rfl)) rfl
            · exact skip_no (b := true) rfl (yielded_of (d := 82) rfl (by omega) (haf ⟨4, .guard⟩ (by simp) rfl)) rfl
            · exact skip_no (b := true) rfl (yielded_of (d := 82) rfl (by omega) (haf ⟨4, .guard⟩ (by simp) rfl)) rfl
            · exact skip_no (b := true) rfl (yielded_of (d := 82) rfl (by omega) (haf ⟨4, .guard⟩ (by simp) rfl)) rfl
            · exact skip_no (b := true) rfl (yielded_of (d := 82) rfl (by omega) (haf ⟨4, .guard⟩ (by simp) rfl)) rfl
            · exact skip_no (b := true) rfl (yielded_of (d := 82) rfl (by omega) (haf ⟨4, .guard⟩ (by simp) rfl)) rfl
            have f4 := gF 82 (haf ⟨4, .data⟩ (by simp) rfl); have f11 := gF 89 (haf ⟨11, .data⟩ (by simp) rfl); refine skip_goodIn _ (wanted_none rfl) ?_; rotate_left
            have f12 := gF 90 (haf ⟨12, .data⟩ (by simp) rfl); refine skip_goodIn _ (wanted_none rfl) ?_; rotate_left
            · exact skip_no (b := true) rfl (yielded_of (d := 91) rfl (by omega) (haf ⟨13, .guard⟩ (by simp) rfl)) rfl
            · exact skip_no (b := true) rfl (yielded_of (d := 91) rfl (by omega) (haf ⟨13, .guard⟩ (by simp) rfl)) rfl
            · exact skip_no (b := true) rfl (yielded_of (d := 91) rfl (by omega) (haf ⟨13, .guard⟩ (by simp) rfl)) rfl
            · exact skip_no (b := true) rfl (yielded_of (d := 91) rfl (by omega) (haf ⟨13, .guard⟩ (by simp) rfl)) rfl
            · exact skip_no (b := true) rfl (yielded_of (d := 91) rfl (by omega) (haf ⟨13, .guard⟩ (by simp) rfl)) rfl
            · exact skip_no (b := true) rfl (yielded_of (d := 91) rfl (by omega) (haf ⟨13, .guard⟩ (by simp) rfl)) rfl
            · exact skip_no (b := true) rfl (yielded_of (d := 91) rfl (by omega) (haf ⟨13, .guard⟩ (by simp) rfl)) rfl
            have f13 := gF 91 (haf ⟨13, .data⟩ (by simp) rfl); have f20 := gF 98 (haf ⟨20, .data⟩ (by simp) rfl); refine skip_goodIn _ (wanted_none rfl) ?_; rotate_left
            all_goals (clear haf ho hsz2; intro K hK; try simp only [List.getD_cons_succ, List.getD_cons_zero] at *; simp only [List.getElem_toArray, List.getElem_cons_succ, List.getElem_cons_zero] at hK ⊢; go_simp; first | exact hK _ _ ⟨Below.refl _ _, hW, rfl⟩ | exact hK _ _ ⟨Below.refl _ _, hW, (by simp only [Value.bool.injEq, decide_eq_true_eq]; omega)⟩)
        · as_aux_lemma =>
            intro aa w9 hW hdf hsz hout hall
            have hat := tmps_seq (lo := 78) (by kernel_rfl) (by kernel_rfl) hsz (by kernel_rfl) hout hall
            obtain ⟨tt, dd⟩ := aa
            simp only [List.take_succ_cons, List.take_zero, List.drop_succ_cons, List.drop_zero, List.cons_append, List.nil_append, List.length_cons, List.length_nil, Nat.reduceAdd] at hat hdf
            subst hat hdf
            clear hsz hout hall
            have brw := boxed_below HBRU.out hN1U hW
            have cr := brw.cell
            have fr := brw.frozen
            gi_wp2
            refine ⟨((ko_belowF hW).trans (KeepsOthers.setCell _ _ _)).from _, ?_⟩
            exact ⟨rfl, (fun h => HNO.out (by rw [← HMP.out]; exact h))⟩
  have HR := hd R
  clear R HK
  refine (wpIn_wide (n := 8)).1 ?_
  refine wpIn_rangeFunc_X (gf := 47) (lb := #[.pointer (some ⟨Q + 1, 0, none⟩)]) rfl (enters_of Try.func47 (by kernel_rfl) rfl) HSQ.out HKS.out (Below.refl _ _) (fun _ => rfl)
    (SfJ P (P + 1) V1 (wn.map lcF)) (SfX P (P + 1) V1 (wn.map lcF) z) (hs6 ▸ sfJ_abides (by omega)) (hs6 ▸ sfX_abides (by omega)) ⟨BN.out, List.nil_prefix, KeepS.refl _, by omega, fun _ h => h.elim⟩
    (fun (x : PL l.length) a' U => ∃ Bx, P + 1 ≤ Bx ∧ Blk U Bx 41 (frv x.1.2.2) ∧ a' = { tmps := #[.slice a l.length c, .int .i64 z, undef, .pointer (some ⟨N, 0, none⟩), .pointer (some ⟨N + 1, 0, none⟩), .slice (some ⟨G, 0, none⟩) l.length (l.length + 8), .pointer (some ⟨Q, 0, none⟩), .pointer (some ⟨Q + 2, 0, none⟩), .func (.func 47) #[] #[.pointer (some ⟨Q + 4, 0, none⟩)], .pointer (some ⟨P, 0, none⟩), .int .i64 (x.1.1 : Int), .pointer (some ⟨Bx, 0, none⟩), undef, undef, undef, undef, undef, undef, undef, undef, undef, undef, .slice a l.length c, .slice (some ⟨G, 0, none⟩) l.length (l.length + 8), .slice a l.length c, .slice xa wn.length xc, .slice (some ⟨G, 0, none⟩) l.length (l.length + 8), .func (.func 47) #[] #[.pointer (some ⟨Q + 1, 0, none⟩)], .slice (some ⟨Q + 3, 0, none⟩) 4 4, .func (.func 47) #[] #[.pointer (some ⟨Q + 4, 0, none⟩)], .func (.func 47) #[] #[.pointer (some ⟨Q + 1, 0, none⟩)], .bool false, .bool false, .func (.func 47) #[] #[.pointer (some ⟨Q + 4, 0, none⟩)], .bool false, .bool false, .func (.func 47) #[] #[.pointer (some ⟨Q + 1, 0, none⟩)], .int .i64 (x.1.1 : Int), .agg (frv x.1.2.2).toArray, undef, undef, undef, undef, undef, undef, undef, undef, undef, undef, undef, undef, undef, undef, undef, undef, undef, undef, undef, undef, undef, undef, undef, undef, undef, undef, undef, undef, undef, undef, undef, undef, undef, undef, undef, undef, undef, undef, undef, undef, undef, undef, undef, undef, undef, undef, undef, undef, undef, undef, undef, undef, undef, undef, undef, undef, undef, undef, undef, undef, undef, undef, undef, undef, undef, undef, undef, undef, undef, undef, undef, undef, undef, undef, undef, undef, undef, undef, undef, undef, undef, undef, undef, undef, undef, undef, undef, undef, undef, undef, undef, undef, undef, undef, undef, undef, undef, undef, undef, undef, undef, undef, undef, undef, undef, undef, undef, undef, undef, undef, undef, undef, undef, undef, undef, undef, undef, undef, undef, undef, undef, undef, undef, undef, undef, undef, undef, undef, undef, undef, undef, undef, undef, undef, undef, undef, undef, undef, undef, undef, undef, undef, undef, undef, undef, undef, undef, undef, undef, undef, undef, undef, undef, undef, undef, undef, undef, undef, undef, undef, undef, undef, undef, undef, undef, undef, undef, undef, undef, undef, undef, undef, undef, undef, undef, undef, undef, undef, undef, undef, undef], defers := [] })
    (fun x a' _ V V' row hs hg hr => by
      obtain ⟨Bx, h1, h2, h3⟩ := hs
      exact ⟨Bx, h1, blkQ_kept h2 hg (fun r e => (hr r e).2), h3⟩)
    ?assign ?body ?done ?stop
  case assign =>
    rintro lk pre ⟨⟨x1, x2, k, ⟨rl, rk, rkey, rval⟩, ⟨pl, pk, pa', pn, pkey⟩, ⟨ec, eb, ef, es⟩⟩, hx⟩ X V K hi hX hK
    simp only [enc2, frv]
    gi_wp2
    have hsV := hi.2.2.2.1
    exact hK _ _ ((KeepsOthers.alloc _ _).from _) ((KeepS.refl _).alloc (fun k hk => by rcases hk with hk | hk; have := hk.1; omega; exact (hX k hk).2) _) (sfJ_abides (by omega) pre X X _ _ hi (Turned.alloc _ _) (fun _ h => .inl h)) ⟨V.heap.size, by omega, Blk.new V 41 (frv ⟨k, ⟨rl, rk, rkey, rval⟩, ⟨pl, pk, pa', pn, pkey⟩, ⟨ec, eb, ef, es⟩⟩), rfl⟩
  case stop =>
    rintro D c2 pre X U hD hp hj hKD
    rcases hj with ⟨rfl, hj⟩ | ⟨rfl, hj1, hj2, hj3, hj4⟩
    · exfalso
      apply hj
      obtain ⟨r, hr⟩ := hp
      refine ⟨r.map lcF, ?_⟩
      rw [HWN.out, ← hr, List.map_append, List.map_map]
      rfl
    · gi_wp2
      exact HR.out D z U (by omega) hj1 (.inr rfl) hj2 hj3 hKD
  case body =>
    have BWV := BW6
    have BRV := BR6
    have JV := J6
    have HWV : Hid (∀ g, (Value.slice xa wn.length xc).ownBlock = some g → ButP P (P + 1) g) := fun g hg => ⟨by have := HWQ.out g hg; omega, by have := HWQ.out g hg; omega⟩
    rintro lk pre ⟨⟨x1, x2, f⟩, hx⟩ X a' U hlk hlp hX ⟨bn, hpre, hB, hsU, hXM⟩ ⟨Bx, hBx, hblk, rfl⟩ hlen
    obtain ⟨k, ⟨rl, rk, rkey, rval⟩, ⟨pl, pk, pp, pn, pkey⟩, ⟨ec, eb, ef, es⟩⟩ := f
    have hblk : Blk U Bx 41 [.int .i64 k, .int .u64 (rl : Int), .int .i64 rk, .string rkey, .string rval, .int .u64 (pl : Int), .int .i64 pk, .int .i64 pp, .int .i64 pn, .string pkey, .int .i64 ec, .int .i64 eb, .int .i64 ef, .int .u32 (es : Int)] := hblk
    have hBxU : Bx < U.heap.size := (Array.getElem?_eq_some_iff.1 hblk).1
    have k0 := hblk.cell 0 _ rfl
    have k1 := hblk.cell 1 _ rfl
    have k2 := hblk.cell 2 _ rfl
    have k3 := hblk.cell 3 _ rfl
    have k4 := hblk.cell 4 _ rfl
    have k5 := hblk.cell 5 _ rfl
    have k6 := hblk.cell 6 _ rfl
    have k7 := hblk.cell 7 _ rfl
    have k8 := hblk.cell 8 _ rfl
    have k9 := hblk.cell 9 _ rfl
    have k10 := hblk.cell 10 _ rfl
    have k11 := hblk.cell 11 _ rfl
    have k12 := hblk.cell 12 _ rfl
    have k13 := hblk.cell 13 _ rfl
    have cn := bn.cell
    have cq := (boxed_keepS BWV.out ⟨by omega, by omega⟩ hB).cell
    have hPU : P < U.heap.size := by omega
    have hQU : Q < U.heap.size := by omega
    have hN1U : N + 1 < U.heap.size := by omega
    have HMP : Hid ((pre ++ [(⟨(x1, x2, ⟨k, ⟨rl, rk, rkey, rval⟩, ⟨pl, pk, pp, pn, pkey⟩, ⟨ec, eb, ef, es⟩⟩), hx⟩ : PL l.length)]).map (fun x => lcF x.1) = pre.map (fun x => lcF x.1) ++ [(x1, ⟨k, ⟨rl, rk, rkey, rval⟩, ⟨pl, pk, pp, pn, pkey⟩, ⟨ec, eb, ef, es⟩⟩)]) := by
      show _ = _
      rw [List.map_append, List.map_singleton]
      rfl
    have HPL : Hid ((pre.map (fun x => lcF x.1)).length = pre.length) := List.length_map _
    have HPRE := hd hpre
    have HB := hd hB
    have HBNU := hd bn
    have HBRU := hd (boxed_keepS BRV.out ⟨by omega, by omega⟩ hB)
    have HJU := hd (JV.out.keepS (fun g hg => HWV.out g hg) hB)
    have HXM := hd hXM
    have HX := hd hX
    have cm := (boxed_keepS BM6.out ⟨by omega, by omega⟩ hB).cell
    clear hpre hB bn hXM hX
    by_cases hzz : (pre.length : Int) = z
    · subst hzz
      clear hblk
      gi_wp2
      refine ⟨(KeepsOthers.refl _).from _, .inr ⟨rfl, HBNU.out, HB.out, hsU, HXM.out⟩⟩
    · have hzf : ((pre.length : Int) == z) = false := by rw [beq_eq_false_iff_ne]; exact hzz
      clear hzz
      by_cases hlt : pre.length < wn.length
      · have hge : ¬ ((pre.length : Int) ≥ (wn.length : Int)) := by omega
        obtain ⟨⟨p0, n0, kd0, ⟨rl0, rk0, rkey0, rval0⟩, ⟨pl0, pk0, pp0, pn0, pkey0⟩, ⟨ec0, eb0, ef0, es0⟩⟩, hlc⟩ : ∃ x, wn[pre.length]? = some x := ⟨_, List.getElem?_eq_getElem hlt⟩
        have hxm : (wn.map fov)[pre.length]? = some [.int .i64 (p0 : Int), .int .i64 (n0 : Int), .int .i64 kd0, .int .u64 (rl0 : Int), .int .i64 rk0, .string rkey0, .string rval0, .int .u64 (pl0 : Int), .int .i64 pk0, .int .i64 pp0, .int .i64 pn0, .string pkey0, .int .i64 ec0, .int .i64 eb0, .int .i64 ef0, .int .u32 (es0 : Int)] := by rw [List.getElem?_map, hlc]; rfl
        obtain ⟨gw, cv', hv1, hg1, hm1⟩ := HJU.out.nn (by intro e; rw [e] at hxm; simp at hxm)
        injection hv1 with e1 e2 e3
        subst e1
        have hgU : gw < U.heap.size := HJU.out.blk_lt gw rfl
        have r0 := HJU.out.at pre.length _ 0 _ hxm rfl
        rw [Nat.add_zero] at r0
        have r2 := HJU.out.at pre.length _ 2 _ hxm rfl
        have r3 := HJU.out.at pre.length _ 3 _ hxm rfl
        have r4 := HJU.out.at pre.length _ 4 _ hxm rfl
        have r5 := HJU.out.at pre.length _ 5 _ hxm rfl
        have r6 := HJU.out.at pre.length _ 6 _ hxm rfl
        have r7 := HJU.out.at pre.length _ 7 _ hxm rfl
        have r8 := HJU.out.at pre.length _ 8 _ hxm rfl
        have r9 := HJU.out.at pre.length _ 9 _ hxm rfl
        have r10 := HJU.out.at pre.length _ 10 _ hxm rfl
        have r11 := HJU.out.at pre.length _ 11 _ hxm rfl
        have r12 := HJU.out.at pre.length _ 12 _ hxm rfl
        have r13 := HJU.out.at pre.length _ 13 _ hxm rfl
        have r14 := HJU.out.at pre.length _ 14 _ hxm rfl
        have r15 := HJU.out.at pre.length _ 15 _ hxm rfl
        have HLC : Hid ((wn.map lcF)[pre.length]? = some (p0, ⟨kd0, ⟨rl0, rk0, rkey0, rval0⟩, ⟨pl0, pk0, pp0, pn0, pkey0⟩, ⟨ec0, eb0, ef0, es0⟩⟩)) := by
          show _ = _
          rw [List.getElem?_map, hlc]; rfl
        obtain ⟨bb, hbb, hbf⟩ := neq_any ⟨k, ⟨rl, rk, rkey, rval⟩, ⟨pl, pk, pp, pn, pkey⟩, ⟨ec, eb, ef, es⟩⟩ ⟨kd0, ⟨rl0, rk0, rkey0, rval0⟩, ⟨pl0, pk0, pp0, pn0, pkey0⟩, ⟨ec0, eb0, ef0, es0⟩⟩
        have heq : ∀ w, (binOp .neq 41 (.agg #[.int .i64 k, .int .u64 (rl : Int), .int .i64 rk, .string rkey, .string rval, .int .u64 (pl : Int), .int .i64 pk, .int .i64 pp, .int .i64 pn, .string pkey, .int .i64 ec, .int .i64 eb, .int .i64 ef, .int .u32 (es : Int)]) (.agg #[.int .i64 kd0, .int .u64 (rl0 : Int), .int .i64 rk0, .string rkey0, .string rval0, .int .u64 (pl0 : Int), .int .i64 pk0, .int .i64 pp0, .int .i64 pn0, .string pkey0, .int .i64 ec0, .int .i64 eb0, .int .i64 ef0, .int .u32 (es0 : Int)])).run Try.prog w = .ok (.bool bb) w := hbb
        clear hbb hlc hxm hg1 hm1 e2 e3
        by_cases hp : x1 = p0
        · subst hp
          cases bb with
          | true =>
            have HNO : Hid (¬ pre.map (fun x => lcF x.1) ++ [(x1, ⟨k, ⟨rl, rk, rkey, rval⟩, ⟨pl, pk, pp, pn, pkey⟩, ⟨ec, eb, ef, es⟩⟩)] <+: wn.map lcF) := hd (pre_snoc_no (by
              rw [HPL.out]
              intro e
              have e2 := HLC.out.symm.trans e
              injection e2 with e2
              injection e2 with _ e2
              have := hbf.2 e2.symm
              cases this))
            clear hbf
            gi_wp2
            refine region_skipIn (fun i9 v9 _ => v9 = [.int .i64 (pre.length : Int), .slice (some ⟨gw, 0, none⟩) wn.length xc, .int .i64 (wn.length : Int), .bool false, .bool false, .int .i64 (x1 : Int), .slice (some ⟨gw, 0, none⟩) wn.length xc, .int .i64 (pre.length : Int), .pointer (some ⟨gw, pre.length * 16, none⟩), .pointer (some ⟨gw, pre.length * 16, none⟩), .int .i64 (x1 : Int), .bool false, .bool false, .bool false, .agg #[.int .i64 k, .int .u64 (rl : Int), .int .i64 rk, .string rkey, .string rval, .int .u64 (pl : Int), .int .i64 pk, .int .i64 pp, .int .i64 pn, .string pkey, .int .i64 ec, .int .i64 eb, .int .i64 ef, .int .u32 (es : Int)], .slice (some ⟨gw, 0, none⟩) wn.length xc, .int .i64 (pre.length : Int), .pointer (some ⟨gw, pre.length * 16, none⟩), .pointer (some ⟨gw, pre.length * 16 + 2, none⟩), .agg #[.int .i64 kd0, .int .u64 (rl0 : Int), .int .i64 rk0, .string rkey0, .string rval0, .int .u64 (pl0 : Int), .int .i64 pk0, .int .i64 pp0, .int .i64 pn0, .string pkey0, .int .i64 ec0, .int .i64 eb0, .int .i64 ef0, .int .u32 (es0 : Int)], .bool true, .bool true].getD i9 undef) (fun w => Below U.heap.size U w) (fun _ => trivial) hmx (by kernel_rfl) (by kernel_rfl) ((Below.refl _ _).drew) (fun _ _ _ _ _ _ _ h => h) ?_ ?_
            · as_aux_lemma =>
                intro i9 o9 ho a9 w9 hW hdf hsz hout haf
                have ee6 := gF 6 (hout 6 (notDst_spec (by kernel_rfl)))
                have ee9 := gF 9 (hout 9 (notDst_spec (by kernel_rfl)))
                have ee10 := gF 10 (hout 10 (notDst_spec (by kernel_rfl)))
                have ee11 := gF 11 (hout 11 (notDst_spec (by kernel_rfl)))
                simp only [Array.getD_eq_getD_getElem?, List.getElem?_toArray, List.getElem?_cons_succ, List.getElem?_cons_zero, Option.getD_some] at ee6 ee9 ee10 ee11
                have hsz2 : a9.tmps.size = 220 := hsz
                clear hout hsz hdf
                have zzcn := (hW.cell (p := ⟨P, 0, none⟩) hPU).trans cn
                have zzcq := (hW.cell (p := ⟨Q, 0, none⟩) hQU).trans cq
                have zzr0 := (hW.cell (p := ⟨gw, pre.length * 16, none⟩) hgU).trans r0
                have zzk0 := (hW.cell (p := ⟨Bx, 0, none⟩) hBxU).trans k0
                have zzk1 := (hW.cell (p := ⟨Bx, 1, none⟩) hBxU).trans k1
                have zzk2 := (hW.cell (p := ⟨Bx, 2, none⟩) hBxU).trans k2
                have zzk3 := (hW.cell (p := ⟨Bx, 3, none⟩) hBxU).trans k3
                have zzk4 := (hW.cell (p := ⟨Bx, 4, none⟩) hBxU).trans k4
                have zzk5 := (hW.cell (p := ⟨Bx, 5, none⟩) hBxU).trans k5
                have zzk6 := (hW.cell (p := ⟨Bx, 6, none⟩) hBxU).trans k6
                have zzk7 := (hW.cell (p := ⟨Bx, 7, none⟩) hBxU).trans k7
                have zzk8 := (hW.cell (p := ⟨Bx, 8, none⟩) hBxU).trans k8
                have zzk9 := (hW.cell (p := ⟨Bx, 9, none⟩) hBxU).trans k9
                have zzk10 := (hW.cell (p := ⟨Bx, 10, none⟩) hBxU).trans k10
                have zzk11 := (hW.cell (p := ⟨Bx, 11, none⟩) hBxU).trans k11
                have zzk12 := (hW.cell (p := ⟨Bx, 12, none⟩) hBxU).trans k12
                have zzk13 := (hW.cell (p := ⟨Bx, 13, none⟩) hBxU).trans k13
                have zzr2 := (hW.cell (p := ⟨gw, pre.length * 16 + 2, none⟩) hgU).trans r2
                have zzr3 := (hW.cell (p := ⟨gw, pre.length * 16 + 3, none⟩) hgU).trans r3
                have zzr4 := (hW.cell (p := ⟨gw, pre.length * 16 + 4, none⟩) hgU).trans r4
                have zzr5 := (hW.cell (p := ⟨gw, pre.length * 16 + 5, none⟩) hgU).trans r5
                have zzr6 := (hW.cell (p := ⟨gw, pre.length * 16 + 6, none⟩) hgU).trans r6
                have zzr7 := (hW.cell (p := ⟨gw, pre.length * 16 + 7, none⟩) hgU).trans r7
                have zzr8 := (hW.cell (p := ⟨gw, pre.length * 16 + 8, none⟩) hgU).trans r8
                have zzr9 := (hW.cell (p := ⟨gw, pre.length * 16 + 9, none⟩) hgU).trans r9
                have zzr10 := (hW.cell (p := ⟨gw, pre.length * 16 + 10, none⟩) hgU).trans r10
                have zzr11 := (hW.cell (p := ⟨gw, pre.length * 16 + 11, none⟩) hgU).trans r11
                have zzr12 := (hW.cell (p := ⟨gw, pre.length * 16 + 12, none⟩) hgU).trans r12
                have zzr13 := (hW.cell (p := ⟨gw, pre.length * 16 + 13, none⟩) hgU).trans r13
                have zzr14 := (hW.cell (p := ⟨gw, pre.length * 16 + 14, none⟩) hgU).trans r14
                have zzr15 := (hW.cell (p := ⟨gw, pre.length * 16 + 15, none⟩) hgU).trans r15
                refine (match i9, ho, haf with | 0, ho, haf => ?_ | 1, ho, haf => ?_ | 2, ho, haf => ?_ | 3, ho, haf => ?_ | 4, ho, haf => ?_ | 5, ho, haf => ?_ | 6, ho, haf => ?_ | 7, ho, haf => ?_ | 8, ho, haf => ?_ | 9, ho, haf => ?_ | 10, ho, haf => ?_ | 11, ho, haf => ?_ | 12, ho, haf => ?_ | 13, ho, haf => ?_ | 14, ho, haf => ?_ | 15, ho, haf => ?_ | 16, ho, haf => ?_ | 17, ho, haf => ?_ | 18, ho, haf => ?_ | 19, ho, haf => ?_ | 20, ho, haf => ?_ | 21, ho, haf => ?_ | n + 22, ho, haf => absurd ho (by simp))
                all_goals obtain rfl := Option.some.inj ho
                refine skip_goodIn _ (wanted_none rfl) ?_; rotate_left
                refine skip_goodIn _ (wanted_none rfl) ?_; rotate_left
                have f1 := gF 43 (haf ⟨1, .data⟩ (by simp) rfl); refine skip_goodIn _ (wanted_none rfl) ?_; rotate_left
                have f0 := gF 42 (haf ⟨0, .data⟩ (by simp) rfl); have f2 := gF 44 (haf ⟨2, .data⟩ (by simp) rfl); refine skip_goodIn _ (wanted_none rfl) ?_; rotate_left
                have f3 := gF 45 (haf ⟨3, .data⟩ (by simp) rfl); refine skip_goodIn _ (wanted_none rfl) ?_; rotate_left
                refine skip_goodIn _ (wanted_some rfl (yielded_of (d := 46) rfl (by omega) (haf ⟨4, .guard⟩ (by simp) rfl))) ?_; rotate_left
                refine skip_goodIn _ (wanted_some rfl (yielded_of (d := 46) rfl (by omega) (haf ⟨4, .guard⟩ (by simp) rfl))) ?_; rotate_left
                refine skip_goodIn _ (wanted_some rfl (yielded_of (d := 46) rfl (by omega) (haf ⟨4, .guard⟩ (by simp) rfl))) ?_; rotate_left
                have f6 := gF 48 (haf ⟨6, .data⟩ (by simp) rfl); have f7 := gF 49 (haf ⟨7, .data⟩ (by simp) rfl); refine skip_goodIn _ (wanted_some rfl (yielded_of (d := 46) rfl (by omega) (haf ⟨4, .guard⟩ (by simp) rfl))) ?_; rotate_left
                have f8 := gF 50 (haf ⟨8, .data⟩ (by simp) rfl); refine skip_goodIn _ (wanted_some rfl (yielded_of (d := 46) rfl (by omega) (haf ⟨4, .guard⟩ (by simp) rfl))) ?_; rotate_left
                have f9 := gF 51 (haf ⟨9, .data⟩ (by simp) rfl); refine skip_goodIn _ (wanted_some rfl (yielded_of (d := 46) rfl (by omega) (haf ⟨4, .guard⟩ (by simp) rfl))) ?_; rotate_left
                have f5 := gF 47 (haf ⟨5, .data⟩ (by simp) rfl); have f10 := gF 52 (haf ⟨10, .data⟩ (by simp) rfl); refine skip_goodIn _ (wanted_some rfl (yielded_of (d := 46) rfl (by omega) (haf ⟨4, .guard⟩ (by simp) rfl))) ?_; rotate_left
                have f4 := gF 46 (haf ⟨4, .data⟩ (by simp) rfl); have f11 := gF 53 (haf ⟨11, .data⟩ (by simp) rfl); refine skip_goodIn _ (wanted_none rfl) ?_; rotate_left
                have f12 := gF 54 (haf ⟨12, .data⟩ (by simp) rfl); refine skip_goodIn _ (wanted_none rfl) ?_; rotate_left
                refine skip_goodIn _ (wanted_some rfl (yielded_of (d := 55) rfl (by omega) (haf ⟨13, .guard⟩ (by simp) rfl))) ?_; rotate_left
                refine skip_goodIn _ (wanted_some rfl (yielded_of (d := 55) rfl (by omega) (haf ⟨13, .guard⟩ (by simp) rfl))) ?_; rotate_left
                refine skip_goodIn _ (wanted_some rfl (yielded_of (d := 55) rfl (by omega) (haf ⟨13, .guard⟩ (by simp) rfl))) ?_; rotate_left
                have f15 := gF 57 (haf ⟨15, .data⟩ (by simp) rfl); have f16 := gF 58 (haf ⟨16, .data⟩ (by simp) rfl); refine skip_goodIn _ (wanted_some rfl (yielded_of (d := 55) rfl (by omega) (haf ⟨13, .guard⟩ (by simp) rfl))) ?_; rotate_left
                have f17 := gF 59 (haf ⟨17, .data⟩ (by simp) rfl); refine skip_goodIn _ (wanted_some rfl (yielded_of (d := 55) rfl (by omega) (haf ⟨13, .guard⟩ (by simp) rfl))) ?_; rotate_left
                have f18 := gF 60 (haf ⟨18, .data⟩ (by simp) rfl); refine skip_goodIn _ (wanted_some rfl (yielded_of (d := 55) rfl (by omega) (haf ⟨13, .guard⟩ (by simp) rfl))) ?_; rotate_left
                have f14 := gF 56 (haf ⟨14, .data⟩ (by simp) rfl); have f19 := gF 61 (haf ⟨19, .data⟩ (by simp) rfl); refine skip_goodIn _ (wanted_some rfl (yielded_of (d := 55) rfl (by omega) (haf ⟨13, .guard⟩ (by simp) rfl))) ?_; rotate_left
                have f13 := gF 55 (haf ⟨13, .data⟩ (by simp) rfl); have f20 := gF 62 (haf ⟨20, .data⟩ (by simp) rfl); refine skip_goodIn _ (wanted_none rfl) ?_; rotate_left
                all_goals (clear haf ho hsz2; intro K hK; try simp only [List.getD_cons_succ, List.getD_cons_zero] at *; simp only [List.getElem_toArray, List.getElem_cons_succ, List.getElem_cons_zero] at hK ⊢; go_simp; first | exact hK _ _ ⟨Below.refl _ _, hW, rfl⟩ | exact hK _ _ ⟨Below.refl _ _, hW, (by simp only [Value.bool.injEq, decide_eq_false_iff_not]; omega)⟩)
            · as_aux_lemma =>
                intro aa w9 hW hdf hsz hout hall
                have hat := tmps_seq (lo := 42) (by kernel_rfl) (by kernel_rfl) hsz (by kernel_rfl) hout hall
                obtain ⟨tt, dd⟩ := aa
                simp only [List.take_succ_cons, List.take_zero, List.drop_succ_cons, List.drop_zero, List.cons_append, List.nil_append, List.length_cons, List.length_nil, Nat.reduceAdd] at hat hdf
                subst hat hdf
                clear hsz hout hall
                have brw := boxed_below HBRU.out hN1U hW
                have cr := brw.cell
                have fr := brw.frozen
                gi_wp2
                refine ⟨((ko_belowF hW).trans (KeepsOthers.setCell _ _ _)).from _, ?_⟩
                exact .inl ⟨rfl, (fun h => HNO.out (by rw [← HMP.out]; exact h))⟩
          | false =>
            have HYES : Hid (pre.map (fun x => lcF x.1) ++ [(x1, ⟨k, ⟨rl, rk, rkey, rval⟩, ⟨pl, pk, pp, pn, pkey⟩, ⟨ec, eb, ef, es⟩⟩)] <+: wn.map lcF) := hd (pre_snoc_yes HPRE.out (by
              rw [HPL.out, HLC.out, hbf.1 rfl]))
            have HW1 : Hid ((pre.length : Int) + 1 = (((pre ++ [(⟨(x1, x2, ⟨k, ⟨rl, rk, rkey, rval⟩, ⟨pl, pk, pp, pn, pkey⟩, ⟨ec, eb, ef, es⟩⟩), hx⟩ : PL l.length)]).length : Nat) : Int)) := hd (by
              rw [List.length_append, List.length_singleton]; omega)
            clear hbf
            gi_wp2
            refine region_skipIn (fun i9 v9 _ => v9 = [.int .i64 (pre.length : Int), .slice (some ⟨gw, 0, none⟩) wn.length xc, .int .i64 (wn.length : Int), .bool false, .bool false, .int .i64 (x1 : Int), .slice (some ⟨gw, 0, none⟩) wn.length xc, .int .i64 (pre.length : Int), .pointer (some ⟨gw, pre.length * 16, none⟩), .pointer (some ⟨gw, pre.length * 16, none⟩), .int .i64 (x1 : Int), .bool false, .bool false, .bool false, .agg #[.int .i64 k, .int .u64 (rl : Int), .int .i64 rk, .string rkey, .string rval, .int .u64 (pl : Int), .int .i64 pk, .int .i64 pp, .int .i64 pn, .string pkey, .int .i64 ec, .int .i64 eb, .int .i64 ef, .int .u32 (es : Int)], .slice (some ⟨gw, 0, none⟩) wn.length xc, .int .i64 (pre.length : Int), .pointer (some ⟨gw, pre.length * 16, none⟩), .pointer (some ⟨gw, pre.length * 16 + 2, none⟩), .agg #[.int .i64 kd0, .int .u64 (rl0 : Int), .int .i64 rk0, .string rkey0, .string rval0, .int .u64 (pl0 : Int), .int .i64 pk0, .int .i64 pp0, .int .i64 pn0, .string pkey0, .int .i64 ec0, .int .i64 eb0, .int .i64 ef0, .int .u32 (es0 : Int)], .bool false, .bool false].getD i9 undef) (fun w => Below U.heap.size U w) (fun _ => trivial) hmx (by kernel_rfl) (by kernel_rfl) ((Below.refl _ _).drew) (fun _ _ _ _ _ _ _ h => h) ?_ ?_
            · as_aux_lemma =>
                intro i9 o9 ho a9 w9 hW hdf hsz hout haf
                have ee6 := gF 6 (hout 6 (notDst_spec (by kernel_rfl)))
                have ee9 := gF 9 (hout 9 (notDst_spec (by kernel_rfl)))
                have ee10 := gF 10 (hout 10 (notDst_spec (by kernel_rfl)))
                have ee11 := gF 11 (hout 11 (notDst_spec (by kernel_rfl)))
                simp only [Array.getD_eq_getD_getElem?, List.getElem?_toArray, List.getElem?_cons_succ, List.getElem?_cons_zero, Option.getD_some] at ee6 ee9 ee10 ee11
                have hsz2 : a9.tmps.size = 220 := hsz
                clear hout hsz hdf
                have zzcn := (hW.cell (p := ⟨P, 0, none⟩) hPU).trans cn
                have zzcq := (hW.cell (p := ⟨Q, 0, none⟩) hQU).trans cq
                have zzr0 := (hW.cell (p := ⟨gw, pre.length * 16, none⟩) hgU).trans r0
                have zzk0 := (hW.cell (p := ⟨Bx, 0, none⟩) hBxU).trans k0
                have zzk1 := (hW.cell (p := ⟨Bx, 1, none⟩) hBxU).trans k1
                have zzk2 := (hW.cell (p := ⟨Bx, 2, none⟩) hBxU).trans k2
                have zzk3 := (hW.cell (p := ⟨Bx, 3, none⟩) hBxU).trans k3
                have zzk4 := (hW.cell (p := ⟨Bx, 4, none⟩) hBxU).trans k4
                have zzk5 := (hW.cell (p := ⟨Bx, 5, none⟩) hBxU).trans k5
                have zzk6 := (hW.cell (p := ⟨Bx, 6, none⟩) hBxU).trans k6
                have zzk7 := (hW.cell (p := ⟨Bx, 7, none⟩) hBxU).trans k7
                have zzk8 := (hW.cell (p := ⟨Bx, 8, none⟩) hBxU).trans k8
                have zzk9 := (hW.cell (p := ⟨Bx, 9, none⟩) hBxU).trans k9
                have zzk10 := (hW.cell (p := ⟨Bx, 10, none⟩) hBxU).trans k10
                have zzk11 := (hW.cell (p := ⟨Bx, 11, none⟩) hBxU).trans k11
                have zzk12 := (hW.cell (p := ⟨Bx, 12, none⟩) hBxU).trans k12
                have zzk13 := (hW.cell (p := ⟨Bx, 13, none⟩) hBxU).trans k13
                have zzr2 := (hW.cell (p := ⟨gw, pre.length * 16 + 2, none⟩) hgU).trans r2
                have zzr3 := (hW.cell (p := ⟨gw, pre.length * 16 + 3, none⟩) hgU).trans r3
                have zzr4 := (hW.cell (p := ⟨gw, pre.length * 16 + 4, none⟩) hgU).trans r4
                have zzr5 := (hW.cell (p := ⟨gw, pre.length * 16 + 5, none⟩) hgU).trans r5
                have zzr6 := (hW.cell (p := ⟨gw, pre.length * 16 + 6, none⟩) hgU).trans r6
                have zzr7 := (hW.cell (p := ⟨gw, pre.length * 16 + 7, none⟩) hgU).trans r7
                have zzr8 := (hW.cell (p := ⟨gw, pre.length * 16 + 8, none⟩) hgU).trans r8
                have zzr9 := (hW.cell (p := ⟨gw, pre.length * 16 + 9, none⟩) hgU).trans r9
                have zzr10 := (hW.cell (p := ⟨gw, pre.length * 16 + 10, none⟩) hgU).trans r10
                have zzr11 := (hW.cell (p := ⟨gw, pre.length * 16 + 11, none⟩) hgU).trans r11
                have zzr12 := (hW.cell (p := ⟨gw, pre.length * 16 + 12, none⟩) hgU).trans r12
                have zzr13 := (hW.cell (p := ⟨gw, pre.length * 16 + 13, none⟩) hgU).trans r13
                have zzr14 := (hW.cell (p := ⟨gw, pre.length * 16 + 14, none⟩) hgU).trans r14
                have zzr15 := (hW.cell (p := ⟨gw, pre.length * 16 + 15, none⟩) hgU).trans r15
                refine (match i9, ho, haf with | 0, ho, haf => ?_ | 1, ho, haf => ?_ | 2, ho, haf => ?_ | 3, ho, haf => ?_ | 4, ho, haf => ?_ | 5, ho, haf => ?_ | 6, ho, haf => ?_ | 7, ho, haf => ?_ | 8, ho, haf => ?_ | 9, ho, haf => ?_ | 10, ho, haf => ?_ | 11, ho, haf => ?_ | 12, ho, haf => ?_ | 13, ho, haf => ?_ | 14, ho, haf => ?_ | 15, ho, haf => ?_ | 16, ho, haf => ?_ | 17, ho, haf => ?_ | 18, ho, haf => ?_ | 19, ho, haf => ?_ | 20, ho, haf => ?_ | 21, ho, haf => ?_ | n + 22, ho, haf => absurd ho (by simp))
                all_goals obtain rfl := Option.some.inj ho
                refine skip_goodIn _ (wanted_none rfl) ?_; rotate_left
                refine skip_goodIn _ (wanted_none rfl) ?_; rotate_left
                have f1 := gF 43 (haf ⟨1, .data⟩ (by simp) rfl); refine skip_goodIn _ (wanted_none rfl) ?_; rotate_left
                have f0 := gF 42 (haf ⟨0, .data⟩ (by simp) rfl); have f2 := gF 44 (haf ⟨2, .data⟩ (by simp) rfl); refine skip_goodIn _ (wanted_none rfl) ?_; rotate_left
                have f3 := gF 45 (haf ⟨3, .data⟩ (by simp) rfl); refine skip_goodIn _ (wanted_none rfl) ?_; rotate_left
                refine skip_goodIn _ (wanted_some rfl (yielded_of (d := 46) rfl (by omega) (haf ⟨4, .guard⟩ (by simp) rfl))) ?_; rotate_left
                refine skip_goodIn _ (wanted_some rfl (yielded_of (d := 46) rfl (by omega) (haf ⟨4, .guard⟩ (by simp) rfl))) ?_; rotate_left
                refine skip_goodIn _ (wanted_some rfl (yielded_of (d := 46) rfl (by omega) (haf ⟨4, .guard⟩ (by simp) rfl))) ?_; rotate_left
                have f6 := gF 48 (haf ⟨6, .data⟩ (by simp) rfl); have f7 := gF 49 (haf ⟨7, .data⟩ (by simp) rfl); refine skip_goodIn _ (wanted_some rfl (yielded_of (d := 46) rfl (by omega) (haf ⟨4, .guard⟩ (by simp) rfl))) ?_; rotate_left
                have f8 := gF 50 (haf ⟨8, .data⟩ (by simp) rfl); refine skip_goodIn _ (wanted_some rfl (yielded_of (d := 46) rfl (by omega) (haf ⟨4, .guard⟩ (by simp) rfl))) ?_; rotate_left
                have f9 := gF 51 (haf ⟨9, .data⟩ (by simp) rfl); refine skip_goodIn _ (wanted_some rfl (yielded_of (d := 46) rfl (by omega) (haf ⟨4, .guard⟩ (by simp) rfl))) ?_; rotate_left
                have f5 := gF 47 (haf ⟨5, .data⟩ (by simp) rfl); have f10 := gF 52 (haf ⟨10, .data⟩ (by simp) rfl); refine skip_goodIn _ (wanted_some rfl (yielded_of (d := 46) rfl (by omega) (haf ⟨4, .guard⟩ (by simp) rfl))) ?_; rotate_left
                have f4 := gF 46 (haf ⟨4, .data⟩ (by simp) rfl); have f11 := gF 53 (haf ⟨11, .data⟩ (by simp) rfl); refine skip_goodIn _ (wanted_none rfl) ?_; rotate_left
                have f12 := gF 54 (haf ⟨12, .data⟩ (by simp) rfl); refine skip_goodIn _ (wanted_none rfl) ?_; rotate_left
                refine skip_goodIn _ (wanted_some rfl (yielded_of (d := 55) rfl (by omega) (haf ⟨13, .guard⟩ (by simp) rfl))) ?_; rotate_left
                refine skip_goodIn _ (wanted_some rfl (yielded_of (d := 55) rfl (by omega) (haf ⟨13, .guard⟩ (by simp) rfl))) ?_; rotate_left
                refine skip_goodIn _ (wanted_some rfl (yielded_of (d := 55) rfl (by omega) (haf ⟨13, .guard⟩ (by simp) rfl))) ?_; rotate_left
                have f15 := gF 57 (haf ⟨15, .data⟩ (by simp) rfl); have f16 := gF 58 (haf ⟨16, .data⟩ (by simp) rfl); refine skip_goodIn _ (wanted_some rfl (yielded_of (d := 55) rfl (by omega) (haf ⟨13, .guard⟩ (by simp) rfl))) ?_; rotate_left
                have f17 := gF 59 (haf ⟨17, .data⟩ (by simp) rfl); refine skip_goodIn _ (wanted_some rfl (yielded_of (d := 55) rfl (by omega) (haf ⟨13, .guard⟩ (by simp) rfl))) ?_; rotate_left
                have f18 := gF 60 (haf ⟨18, .data⟩ (by simp) rfl); refine skip_goodIn _ (wanted_some rfl (yielded_of (d := 55) rfl (by omega) (haf ⟨13, .guard⟩ (by simp) rfl))) ?_; rotate_left
                have f14 := gF 56 (haf ⟨14, .data⟩ (by simp) rfl); have f19 := gF 61 (haf ⟨19, .data⟩ (by simp) rfl); refine skip_goodIn _ (wanted_some rfl (yielded_of (d := 55) rfl (by omega) (haf ⟨13, .guard⟩ (by simp) rfl))) ?_; rotate_left
                have f13 := gF 55 (haf ⟨13, .data⟩ (by simp) rfl); have f20 := gF 62 (haf ⟨20, .data⟩ (by simp) rfl); refine skip_goodIn _ (wanted_none rfl) ?_; rotate_left
                all_goals (clear haf ho hsz2; intro K hK; try simp only [List.getD_cons_succ, List.getD_cons_zero] at *; simp only [List.getElem_toArray, List.getElem_cons_succ, List.getElem_cons_zero] at hK ⊢; go_simp; first | exact hK _ _ ⟨Below.refl _ _, hW, rfl⟩ | exact hK _ _ ⟨Below.refl _ _, hW, (by simp only [Value.bool.injEq, decide_eq_false_iff_not]; omega)⟩)
            · as_aux_lemma =>
                intro aa w9 hW hdf hsz hout hall
                have hat := tmps_seq (lo := 42) (by kernel_rfl) (by kernel_rfl) hsz (by kernel_rfl) hout hall
                obtain ⟨tt, dd⟩ := aa
                simp only [List.take_succ_cons, List.take_zero, List.drop_succ_cons, List.drop_zero, List.cons_append, List.nil_append, List.length_cons, List.length_nil, Nat.reduceAdd] at hat hdf
                subst hat hdf
                clear hsz hout hall
                have bnw := boxed_below HBNU.out hPU hW
                have cnw := bnw.cell
                have fnw := bnw.frozen
                gi_wp2
                rw [HW1.out]
                refine ⟨((ko_belowF hW).trans (KeepsOthers.setCell _ _ _)).from _, (KeepS.of_below hW (fun k hk => ?_)).setCell (p := ⟨P, 0, none⟩) (fun h => ?_) _, (show Boxed (w9.setCell ⟨P, 0, none⟩ _) P _ _ from bnw.set _), ?_, (HB.out.trans (KeepS.of_below hW (fun k hk => by have := hk.1; omega))).setCell (p := ⟨P, 0, none⟩) (fun h => absurd rfl h.2) _, by have := hW.size; simp only [World.setCell, Array.size_modify] <;> omega, HXM.out⟩
                · rcases hk with hk | hk
                  · have := hk.1; omega
                  · exact (HX.out _ hk).2
                · rcases h with h | h
                  · exact h.2 rfl
                  · have := HXM.out _ h; have h2 : P + 1 ≤ P := this; omega
                · rw [HMP.out]; exact HYES.out
        · have HNO : Hid (¬ pre.map (fun x => lcF x.1) ++ [(x1, ⟨k, ⟨rl, rk, rkey, rval⟩, ⟨pl, pk, pp, pn, pkey⟩, ⟨ec, eb, ef, es⟩⟩)] <+: wn.map lcF) := hd (pre_snoc_no (by
            rw [HPL.out]
            intro e
            have e2 := HLC.out.symm.trans e
            injection e2 with e2
            injection e2 with e2 _
            exact hp e2.symm))
          have hpd : ((x1 : Int) != (p0 : Int)) = true := by simp; omega
          clear hbf hp
          gi_wp2
          refine region_skipIn (fun i9 v9 _ => v9 = [.int .i64 (pre.length : Int), .slice (some ⟨gw, 0, none⟩) wn.length xc, .int .i64 (wn.length : Int), .bool false, .bool false, .int .i64 (x1 : Int), .slice (some ⟨gw, 0, none⟩) wn.length xc, .int .i64 (pre.length : Int), .pointer (some ⟨gw, pre.length * 16, none⟩), .pointer (some ⟨gw, pre.length * 16, none⟩), .int .i64 (p0 : Int), .bool true, .bool true, .bool true, undef, undef, undef, undef, undef, undef, undef, .bool true].getD i9 undef) (fun w => Below U.heap.size U w) (fun _ => trivial) hmx (by kernel_rfl) (by kernel_rfl) ((Below.refl _ _).drew) (fun _ _ _ _ _ _ _ h => h) ?_ ?_
          · as_aux_lemma =>
              intro i9 o9 ho a9 w9 hW hdf hsz hout haf
              have ee6 := gF 6 (hout 6 (notDst_spec (by kernel_rfl)))
              have ee9 := gF 9 (hout 9 (notDst_spec (by kernel_rfl)))
              have ee10 := gF 10 (hout 10 (notDst_spec (by kernel_rfl)))
              simp only [Array.getD_eq_getD_getElem?, List.getElem?_toArray, List.getElem?_cons_succ, List.getElem?_cons_zero, Option.getD_some] at ee6 ee9 ee10
              have hsz2 : a9.tmps.size = 220 := hsz
              clear hout hsz hdf
              have zzcn := (hW.cell (p := ⟨P, 0, none⟩) hPU).trans cn
              have zzcq := (hW.cell (p := ⟨Q, 0, none⟩) hQU).trans cq
              have zzr0 := (hW.cell (p := ⟨gw, pre.length * 16, none⟩) hgU).trans r0
              refine (match i9, ho, haf with | 0, ho, haf => ?_ | 1, ho, haf => ?_ | 2, ho, haf => ?_ | 3, ho, haf => ?_ | 4, ho, haf => ?_ | 5, ho, haf => ?_ | 6, ho, haf => ?_ | 7, ho, haf => ?_ | 8, ho, haf => ?_ | 9, ho, haf => ?_ | 10, ho, haf => ?_ | 11, ho, haf => ?_ | 12, ho, haf => ?_ | 13, ho, haf => ?_ | 14, ho, haf => ?_ | 15, ho, haf => ?_ | 16, ho, haf => ?_ | 17, ho, haf => ?_ | 18, ho, haf => ?_ | 19, ho, haf => ?_ | 20, ho, haf => ?_ | 21, ho, haf => ?_ | n + 22, ho, haf => absurd ho (by simp))
              all_goals obtain rfl := Option.some.inj ho
              refine skip_goodIn _ (wanted_none rfl) ?_; rotate_left
              refine skip_goodIn _ (wanted_none rfl) ?_; rotate_left
              have f1 := gF 43 (haf ⟨1, .data⟩ (by simp) rfl); refine skip_goodIn _ (wanted_none rfl) ?_; rotate_left
              have f0 := gF 42 (haf ⟨0, .data⟩ (by simp) rfl); have f2 := gF 44 (haf ⟨2, .data⟩ (by simp) rfl); refine skip_goodIn _ (wanted_none rfl) ?_; rotate_left
              have f3 := gF 45 (haf ⟨3, .data⟩ (by simp) rfl); refine skip_goodIn _ (wanted_none rfl) ?_; rotate_left
              refine skip_goodIn _ (wanted_some rfl (yielded_of (d := 46) rfl (by omega) (haf ⟨4, .guard⟩ (by simp) rfl))) ?_; rotate_left
              refine skip_goodIn _ (wanted_some rfl (yielded_of (d := 46) rfl (by omega) (haf ⟨4, .guard⟩ (by simp) rfl))) ?_; rotate_left
              refine skip_goodIn _ (wanted_some rfl (yielded_of (d := 46) rfl (by omega) (haf ⟨4, .guard⟩ (by simp) rfl))) ?_; rotate_left
              have f6 := gF 48 (haf ⟨6, .data⟩ (by simp) rfl); have f7 := gF 49 (haf ⟨7, .data⟩ (by simp) rfl); refine skip_goodIn _ (wanted_some rfl (yielded_of (d := 46) rfl (by omega) (haf ⟨4, .guard⟩ (by simp) rfl))) ?_; rotate_left
              have f8 := gF 50 (haf ⟨8, .data⟩ (by simp) rfl); refine skip_goodIn _ (wanted_some rfl (yielded_of (d := 46) rfl (by omega) (haf ⟨4, .guard⟩ (by simp) rfl))) ?_; rotate_left
              have f9 := gF 51 (haf ⟨9, .data⟩ (by simp) rfl); refine skip_goodIn _ (wanted_some rfl (yielded_of (d := 46) rfl (by omega) (haf ⟨4, .guard⟩ (by simp) rfl))) ?_; rotate_left
              have f5 := gF 47 (haf ⟨5, .data⟩ (by simp) rfl); have f10 := gF 52 (haf ⟨10, .data⟩ (by simp) rfl); refine skip_goodIn _ (wanted_some rfl (yielded_of (d := 46) rfl (by omega) (haf ⟨4, .guard⟩ (by simp) rfl))) ?_; rotate_left
              have f4 := gF 46 (haf ⟨4, .data⟩ (by simp) rfl); have f11 := gF 53 (haf ⟨11, .data⟩ (by simp) rfl); refine skip_goodIn _ (wanted_none rfl) ?_; rotate_left
              have f12 := gF 54 (haf ⟨12, .data⟩ (by simp) rfl); refine skip_goodIn _ (wanted_none rfl) ?_; rotate_left
              · exact skip_no (b := true) rfl (yielded_of (d := 55) rfl (by omega) (haf ⟨13, .guard⟩ (by simp) rfl)) rfl
              · exact skip_no (b := true) rfl (yielded_of (d := 55) rfl (by omega) (haf ⟨13, .guard⟩ (by simp) rfl)) rfl
              · exact skip_no (b := true) rfl (yielded_of (d := 55) rfl (by omega) (haf ⟨13, .guard⟩ (by simp) rfl)) rfl
              · exact skip_no (b := true) rfl (yielded_of (d := 55) rfl (by omega) (haf ⟨13, .guard⟩ (by simp) rfl)) rfl
              · exact skip_no (b := true) rfl (yielded_of (d := 55) rfl (by omega) (haf ⟨13, .guard⟩ (by simp) rfl)) rfl
              · exact skip_no (b := true) rfl (yielded_of (d := 55) rfl (by omega) (haf ⟨13, .guard⟩ (by simp) rfl)) rfl
              · exact skip_no (b := true) rfl (yielded_of (d := 55) rfl (by omega) (haf ⟨13, .guard⟩ (by simp) rfl)) rfl
              have f13 := gF 55 (haf ⟨13, .data⟩ (by simp) rfl); have f20 := gF 62 (haf ⟨20, .data⟩ (by simp) rfl); refine skip_goodIn _ (wanted_none rfl) ?_; rotate_left
              all_goals (clear haf ho hsz2; intro K hK; try simp only [List.getD_cons_succ, List.getD_cons_zero] at *; simp only [List.getElem_toArray, List.getElem_cons_succ, List.getElem_cons_zero] at hK ⊢; go_simp; first | exact hK _ _ ⟨Below.refl _ _, hW, rfl⟩ | exact hK _ _ ⟨Below.refl _ _, hW, (by simp only [Value.bool.injEq, decide_eq_false_iff_not]; omega)⟩)
          · as_aux_lemma =>
              intro aa w9 hW hdf hsz hout hall
              have hat := tmps_seq (lo := 42) (by kernel_rfl) (by kernel_rfl) hsz (by kernel_rfl) hout hall
              obtain ⟨tt, dd⟩ := aa
              simp only [List.take_succ_cons, List.take_zero, List.drop_succ_cons, List.drop_zero, List.cons_append, List.nil_append, List.length_cons, List.length_nil, Nat.reduceAdd] at hat hdf
              subst hat hdf
              clear hsz hout hall
              have brw := boxed_below HBRU.out hN1U hW
              have cr := brw.cell
              have fr := brw.frozen
              gi_wp2
              refine ⟨((ko_belowF hW).trans (KeepsOthers.setCell _ _ _)).from _, ?_⟩
              exact .inl ⟨rfl, (fun h => HNO.out (by rw [← HMP.out]; exact h))⟩
      · have hge : (pre.length : Int) ≥ (wn.length : Int) := by omega
        have HNO : Hid (¬ pre.map (fun x => lcF x.1) ++ [(x1, ⟨k, ⟨rl, rk, rkey, rval⟩, ⟨pl, pk, pp, pn, pkey⟩, ⟨ec, eb, ef, es⟩⟩)] <+: wn.map lcF) := hd (pre_snoc_no (by
          rw [HPL.out, List.getElem?_eq_none (by rw [List.length_map]; omega)]
          intro e
          cases e))
        gi_wp2
        refine region_skipIn (fun i9 v9 _ => v9 = [.int .i64 (pre.length : Int), .slice xa wn.length xc, .int .i64 (wn.length : Int), .bool true, .bool true, undef, undef, undef, undef, undef, undef, undef, .bool true, .bool true, undef, undef, undef, undef, undef, undef, undef, .bool true].getD i9 undef) (fun w => Below U.heap.size U w) (fun _ => trivial) hmx (by kernel_rfl) (by kernel_rfl) ((Below.refl _ _).drew) (fun _ _ _ _ _ _ _ h => h) ?_ ?_
        · as_aux_lemma =>
            intro i9 o9 ho a9 w9 hW hdf hsz hout haf
            have ee6 := gF 6 (hout 6 (notDst_spec (by kernel_rfl)))
            have ee9 := gF 9 (hout 9 (notDst_spec (by kernel_rfl)))
            simp only [Array.getD_eq_getD_getElem?, List.getElem?_toArray, List.getElem?_cons_succ, List.getElem?_cons_zero, Option.getD_some] at ee6 ee9
            have hsz2 : a9.tmps.size = 220 := hsz
            clear hout hsz hdf
            have zzcn := (hW.cell (p := ⟨P, 0, none⟩) hPU).trans cn
            have zzcq := (hW.cell (p := ⟨Q, 0, none⟩) hQU).trans cq
            refine (match i9, ho, haf with | 0, ho, haf => ?_ | 1, ho, haf => ?_ | 2, ho, haf => ?_ | 3, ho, haf => ?_ | 4, ho, haf => ?_ | 5, ho, haf => ?_ | 6, ho, haf => ?_ | 7, ho, haf => ?_ | 8, ho, haf => ?_ | 9, ho, haf => ?_ | 10, ho, haf => ?_ | 11, ho, haf => ?_ | 12, ho, haf => ?_ | 13, ho, haf => ?_ | 14, ho, haf => ?_ | 15, ho, haf => ?_ | 16, ho, haf => ?_ | 17, ho, haf => ?_ | 18, ho, haf => ?_ | 19, ho, haf => ?_ | 20, ho, haf => ?_ | 21, ho, haf => ?_ | n + 22, ho, haf => absurd ho (by simp))
            all_goals obtain rfl := Option.some.inj ho
            refine skip_goodIn _ (wanted_none rfl) ?_; rotate_left
            refine skip_goodIn _ (wanted_none rfl) ?_; rotate_left
            have f1 := gF 43 (haf ⟨1, .data⟩ (by simp) rfl); refine skip_goodIn _ (wanted_none rfl) ?_; rotate_left
            have f0 := gF 42 (haf ⟨0, .data⟩ (by simp) rfl); have f2 := gF 44 (haf ⟨2, .data⟩ (by simp) rfl); refine skip_goodIn _ (wanted_none rfl) ?_; rotate_left
            have f3 := gF 45 (haf ⟨3, .data⟩ (by simp) rfl); refine skip_goodIn _ (wanted_none rfl) ?_; rotate_left
            · exact skip_no (b := true) rfl (yielded_of (d := 46) rfl (by omega) (haf ⟨4, .guard⟩ (by simp) rfl)) rfl
            · exact skip_no (b := true) rfl (yielded_of (d := 46) rfl (by omega) (haf ⟨4, .guard⟩ (by simp) rfl)) rfl
            · exact skip_no (b := true) rfl (yielded_of (d := 46) rfl (by omega) (haf ⟨4, .guard⟩ (by simp) rfl)) rfl
            · exact skip_no (b := true) rfl (yielded_of (d := 46) rfl (by omega) (haf ⟨4, .guard⟩ (by simp) rfl)) rfl
            · exact skip_no (b := true) rfl (yielded_of (d := 46) rfl (by omega) (haf ⟨4, .guard⟩ (by simp) rfl)) rfl
            · exact skip_no (b := true) rfl (yielded_of (d := 46) rfl (by omega) (haf ⟨4, .guard⟩ (by simp) rfl)) rfl
            · exact skip_no (b := true) rfl (yielded_of (d := 46) rfl (by omega) (haf ⟨4, .guard⟩ (by simp) rfl)) rfl
            have f4 := gF 46 (haf ⟨4, .data⟩ (by simp) rfl); have f11 := gF 53 (haf ⟨11, .data⟩ (by simp) rfl); refine skip_goodIn _ (wanted_none rfl) ?_; rotate_left
            have f12 := gF 54 (haf ⟨12, .data⟩ (by simp) rfl); refine skip_goodIn _ (wanted_none rfl) ?_; rotate_left
            · exact skip_no (b := true) rfl (yielded_of (d := 55) rfl (by omega) (haf ⟨13, .guard⟩ (by simp) rfl)) rfl
            · exact skip_no (b := true) rfl (yielded_of (d := 55) rfl (by omega) (haf ⟨13, .guard⟩ (by simp) rfl)) rfl
            · exact skip_no (b := true) rfl (yielded_of (d := 55) rfl (by omega) (haf ⟨13, .guard⟩ (by simp) rfl)) rfl
            · exact skip_no (b := true) rfl (yielded_of (d := 55) rfl (by omega) (haf ⟨13, .guard⟩ (by simp) rfl)) rfl
            · exact skip_no (b := true) rfl (yielded_of (d := 55) rfl (by omega) (haf ⟨13, .guard⟩ (by simp) rfl)) rfl
            · exact skip_no (b := true) rfl (yielded_of (d := 55) rfl (by omega) (haf ⟨13, .guard⟩ (by simp) rfl)) rfl
            · exact skip_no (b := true) rfl (yielded_of (d := 55) rfl (by omega) (haf ⟨13, .guard⟩ (by simp) rfl)) rfl
            have f13 := gF 55 (haf ⟨13, .data⟩ (by simp) rfl); have f20 := gF 62 (haf ⟨20, .data⟩ (by simp) rfl); refine skip_goodIn _ (wanted_none rfl) ?_; rotate_left
            all_goals (clear haf ho hsz2; intro K hK; try simp only [List.getD_cons_succ, List.getD_cons_zero] at *; simp only [List.getElem_toArray, List.getElem_cons_succ, List.getElem_cons_zero] at hK ⊢; go_simp; first | exact hK _ _ ⟨Below.refl _ _, hW, rfl⟩ | exact hK _ _ ⟨Below.refl _ _, hW, (by simp only [Value.bool.injEq, decide_eq_true_eq]; omega)⟩)
        · as_aux_lemma =>
            intro aa w9 hW hdf hsz hout hall
            have hat := tmps_seq (lo := 42) (by kernel_rfl) (by kernel_rfl) hsz (by kernel_rfl) hout hall
            obtain ⟨tt, dd⟩ := aa
            simp only [List.take_succ_cons, List.take_zero, List.drop_succ_cons, List.drop_zero, List.cons_append, List.nil_append, List.length_cons, List.length_nil, Nat.reduceAdd] at hat hdf
            subst hat hdf
            clear hsz hout hall
            have brw := boxed_below HBRU.out hN1U hW
            have cr := brw.cell
            have fr := brw.frozen
            gi_wp2
            refine ⟨((ko_belowF hW).trans (KeepsOthers.setCell _ _ _)).from _, ?_⟩
            exact .inl ⟨rfl, (fun h => HNO.out (by rw [← HMP.out]; exact h))⟩
  case done =>
    rintro D ys X U hD hys ⟨bn, hpre, hB, hsU, hXM⟩ hKD
    gi_wp2
    have hyl : ys.length = wn.length := by rw [HWN.out, ← hys, List.length_map]
    rw [hyl] at bn
    exact HR.out D _ U (by omega) bn (.inl rfl) hB hsU hKD
end Vt
end Go.Proofs.Ytlddogigbodilaa
