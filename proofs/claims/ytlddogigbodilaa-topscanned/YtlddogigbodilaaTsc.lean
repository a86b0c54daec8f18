/-
  TopScanned's walk: frames are found among junk.
-/
import Derived.Test.YtlddogigbodilaaNbv
import Derived.Test.YtlddogigbodilaaNbz
import Derived.Test.YtlddogigbodilaaNbj
import Derived.Test.YtlddogigbodilaaNad
namespace Go.Proofs.Ytlddogigbodilaa
open Go.ChangeShapes Go.WideShapes Go.ChangeAt Go.RowKit Go.Shelf
namespace Vt
attribute [local go_sem] Oper.semAt_some
theorem some100s {w : World} {a : Option Addr} {n c : Nat} {l : List Rw4} (h : IsRw w (.slice a n c) l) (hn : n = l.length) (hl : 100 < l.length) : ∃ b off, a = some ⟨b, off, none⟩ ∧ 100 ≤ c ∧ c ≤ maxLen ∧ IsRw w (.slice (some ⟨b, off, none⟩) 100 c) (l.take 100) := by
  obtain ⟨h1, ⟨rfl, _⟩ | ⟨b, off, c', he, hlc, hcm, hb, hop⟩⟩ := h
  · simp at hl
  · injection he with e1 e2 e3
    subst e1 e3
    have hlen : (l.take 100).length = 100 := by rw [List.length_take]; omega
    refine ⟨b, off, rfl, by omega, hcm, fun x hx => h1 x (List.mem_of_mem_take hx), .inr ⟨b, off, c, by rw [hlen], by omega, hcm, hb, fun i x hx j u hu => ?_⟩⟩
    have hi : i < 100 := by have := (List.getElem?_eq_some_iff.1 hx).1; omega
    rw [List.getElem?_take_of_lt hi] at hx
    exact hop i x hx j u hu
theorem jb_isB3 {w : World} {b : Nat} {v : Value} {l : List Nat} (h : JB w b v l) : IsB w v l := JK.isK (k := .u8) (M := 256) (E := 5) h
def lcP (x : Lc) : Nat × Fr := (x.1, x.2.2)
/-- between two rounds of the range -/
def TsJ (P : Nat) (V1 : World) (wn : List Lc) {B : Nat} (pre : List (PL B)) (X : Nat → Prop) (U : World) : Prop :=
  Boxed U P 3 (.int .i64 (pre.length : Int)) ∧ pre.map (fun x => lcP x.1) <+: wn.map lcP ∧ Below P V1 U ∧ P + 1 ≤ U.heap.size ∧ (∀ k, X k → P + 1 ≤ k)
theorem tsJ_abides {P : Nat} {V1 : World} {wn : List Lc} (hs : V1.heap.size = P + 1) {B : Nat} : AbidesX (P + 1) (TsJ P V1 wn (B := B)) := by
  rintro s X X' V V' ⟨h0, h1, h2, h3, h4⟩ ht hX
  refine ⟨boxed_turned h0 ht (fun x => by have := h4 _ x; omega), h1, below_turned h2 (by omega) ht (by omega) (fun k hk => by have := h4 k hk; omega), Nat.le_trans h3 ht.size, fun k hk => ?_⟩
  rcases hX k hk with h | h
  · exact h4 k h
  · omega
theorem ko_below {U w : World} (h : Below U.heap.size U w) : KeepsOthers U w := ⟨h.size, fun k _ hk _ => (h.block k (Array.getElem?_eq_some_iff.1 hk).1).trans hk⟩
theorem wrapA {k : Nat} (h : k ≤ 100) : IntKind.i64.wrap ((k : Int) + 1) = (k : Int) + 1 := by
  have key : ∀ q : Fin 101, IntKind.i64.wrap (((q.1 : Nat) : Int) + 1) = ((q.1 : Nat) : Int) + 1 := by decide
  exact key ⟨k, by omega⟩
theorem wrapB {k : Nat} (h : k ≤ 100) : IntKind.u64.wrap ((k : Int) + 1) = (k : Int) + 1 := by
  have key : ∀ q : Fin 101, IntKind.u64.wrap (((q.1 : Nat) : Int) + 1) = ((q.1 : Nat) : Int) + 1 := by decide
  exact key ⟨k, by omega⟩
set_option maxRecDepth 100000 in
set_option maxHeartbeats 400000 in
theorem sameBS_is (va vb : Value) (la lb : List Nat) (w : World) (hA : IsB w va la) (hB : IsB w vb lb) :
    Calls Try.prog 38 #[va, vb] w fun e w' => e = .returned (.bool (decide (la = lb))) ∧ w' = w := by
  have c1 := conv_is w va la hA
  have c2 := conv_is w vb lb hB
  have HE := hd (str_eq hA.1 hB.1)
  clear hA hB
  go_enter Try.func38, Try.ntmps38
  go_wp2_with fail
  go_ret
  exact ⟨by rw [HE.out]; rfl, rfl⟩
set_option maxRecDepth 100000 in
set_option maxHeartbeats 40000000 in
theorem scanned_walk (v u : Value) (l0 : List Rw4) (js : List (List Nat)) (w : World) (h1 : IsRw w v l0) (hU : IsP w u js) :
    Calls Try.prog 7 #[v, u] w fun e w' => e = .returned (.bool true) ∧ Below w.heap.size w w' := by
  obtain ⟨a, c, rfl⟩ := h1.shape
  have HL := hd h1
  have HU := hd hU
  clear h1 hU
  have hmx : Try.prog.follows .mixedOrders = true := by kernel_rfl
  refine (callsIn_wide (n := 8)).1 ?_
  refine callsIn_of_wp_marks Try.func7 rfl trivial (Code.wpIn_mono bodyPostF_M ?_) rfl
  simp only [Try.ntmps7, List.size_toArray, List.length_cons, List.length_nil, Nat.reduceAdd, Nat.reduceSub, Array.replicate_succ, Array.replicate_zero, List.push_toArray, List.append_toArray, List.nil_append, List.cons_append]
  refine wpIn_wide.2 ?_
  apply wp_seq_k
  intro K1 hK1
  have HK1 := hd hK1
  clear hK1
  go_wp2_with fail
  apply HK1.out
  apply wp_seq_k
  intro K2 hK2
  have HK2 := hd hK2
  clear hK2 HK1
  refine (fun (R2 : ∀ (v0 lv u25 u26 u27 u28 u29 : Value) (L : List Rw4), L.length ≤ 100 → IsRw w lv L → K2 ⟨#[v0, u, Value.pointer (some { block := w.heap.size, off := 0 }), undef, Value.pointer (some { block := w.heap.size + 1, off := 0 }), undef, undef, undef, undef, undef, undef, undef, undef, undef, undef, undef, undef, undef, undef, undef, undef, undef, undef, undef, undef, u25, u26, u27, u28, u29, undef, undef, undef, undef, undef, undef, undef, undef, undef, undef, undef, undef, undef, undef, undef, undef, undef, undef, undef, undef, undef, undef, undef, undef, undef, undef, undef, undef, undef, undef, undef, undef, undef, undef, undef, undef, undef, undef, undef, undef, undef, undef, undef, undef, undef, undef, undef, undef, undef, undef, undef, undef, undef, undef, undef, undef, undef, undef, undef, undef, undef, undef, undef, undef, undef, undef, undef, undef, undef, undef, undef, undef, undef, undef, undef, undef, undef, undef, undef, undef, undef, undef, undef, undef, undef, undef, undef, undef, undef, undef, undef, undef, undef, undef, undef, undef, undef, undef, undef, undef, undef, undef, undef, undef, undef, undef, undef, undef, undef, undef, undef, undef, undef, undef, undef, undef, undef, undef, undef, undef, undef, undef, undef, undef, undef, undef, undef, undef, undef, undef, undef, undef, undef, undef, undef, undef, undef, undef, undef, undef, undef, undef, undef, undef, undef, undef, undef, undef, undef, undef, undef, undef, undef, undef, undef, undef, undef, undef, undef, undef, undef, undef, undef, undef, undef, undef, undef, undef, undef, undef], []⟩ ((w.alloc (Obj.cells #[lv] 75)).alloc (Obj.cells #[Value.bool false] 4))) => ?main2) ?h2
  case main2 =>
    have HR2 := hd R2
    clear R2 HK2
    by_cases hl : 100 < l0.length
    · obtain ⟨b, off, rfl, hc1, hc2, hI⟩ := some100s HL.out rfl hl
      have hi : (100 : Int) < (l0.length : Int) := by omega
      have HI := hd hI
      clear hI
      go_wp2_with fail
      exact HR2.out _ _ _ _ _ _ _ _ (by rw [List.length_take]; omega) HI.out
    · have hi : ¬ (100 : Int) < (l0.length : Int) := by omega
      go_wp2_with fail
      exact HR2.out _ _ _ _ _ _ _ _ (by omega) HL.out
  case h2 =>
    intro v0 lv u25 u26 u27 u28 u29 L hlen hI
    apply HK2.out
    clear HK2 HL
    obtain ⟨va, vc, rfl⟩ := hI.shape
    obtain ⟨N, hN⟩ : ∃ N, N = w.heap.size := ⟨_, rfl⟩
    obtain ⟨W, hW⟩ : ∃ W, W = ((w.alloc (Obj.cells #[.slice va L.length vc] 75)).alloc (Obj.cells #[Value.bool false] 4)) := ⟨_, rfl⟩
    have hsW : W.heap.size = N + 2 := by rw [hW, hN]; simp
    have HBW : Hid (Below w.heap.size w W) := by rw [hW]; exact ((Below.refl _ _).alloc (Nat.le_refl _) _).alloc (by simp) _
    have BL : Hid (Boxed W N 75 (.slice va L.length vc)) := by rw [hW, hN]; exact (Boxed.new w _ _).alloc _
    have BR : Hid (Boxed W (N + 1) 4 (.bool false)) := by
      have := Boxed.new (w.alloc (Obj.cells #[.slice va L.length vc] 75)) 4 (.bool false)
      rw [World.size_alloc, ← hN] at this
      rw [hW]; exact this
    have HI := hd (hI.below HBW.out)
    have HU1 := hd (HU.out.below HBW.out)
    rw [← hW, ← hN]
    have HN := hd hN
    have hNW : N < W.heap.size := by omega
    have blc := BL.out.cell
    clear hW hN hI
    go_wp2_with fail
    refine Calls.mono (laid_is _ u L js W HI.out HU1.out hlen) ?_
    rintro e w1 ⟨bs, wn, nn, vb, vpl, hlay, rfl, jb, ja, b1⟩
    have HLAY := hd hlay
    have hwl := hlay.wlen
    obtain ⟨ba, bc, rfl, hbc⟩ := JK.shape (k := .u8) (M := 256) (E := 5) jb
    obtain ⟨pa, pc, rfl, hpc⟩ := JK.shape (k := .i64) (M := 9223372036854775808) (E := 3) ja
    rw [List.length_map] at hpc ja ⊢
    have HJB := hd jb
    have HJA := hd ja
    have HB1 := hd (HBW.out.trans (b1.mono HBW.out.size))
    have HI1 := hd (HI.out.below b1)
    have BL1 := hd (boxed_below BL.out hNW b1)
    have BR1 := hd (boxed_below BR.out (by omega) b1)
    have hs1 := b1.size
    have blc1 := BL1.out.cell
    have n1 : N < w1.heap.size := by omega
    have n2 : ¬ N = w1.heap.size := by omega
    have n3 : ¬ w1.heap.size = N := by omega
    clear hlay jb ja b1 HI HU HU1 BL BR HBW blc hwl
    go_wp2_with fail
    obtain ⟨A, hA⟩ : ∃ A, A = w1.heap.size := ⟨_, rfl⟩
    obtain ⟨W2, hW2⟩ : ∃ W2, W2 = w1.alloc (Obj.cells #[Value.slice pa wn.length pc] 77) := ⟨_, rfl⟩
    have hs2 : W2.heap.size = A + 1 := by rw [hW2, hA]; simp
    have b2 : Below w1.heap.size w1 W2 := by rw [hW2]; exact (Below.refl _ _).alloc (Nat.le_refl _) _
    have BA2 := hd (show Boxed W2 A 77 (.slice pa wn.length pc) by rw [hW2, hA]; exact Boxed.new w1 _ _)
    rw [← hW2, ← hA]
    have HJB2 := hd (JK.keepAll (k := .u8) (M := 256) (E := 5) HJB.out b2)
    have HJA2 := hd (JK.keepAll (k := .i64) (M := 9223372036854775808) (E := 3) HJA.out b2)
    have HB2 := hd (HB1.out.trans (b2.mono HB1.out.size))
    have HI2 := hd (HI1.out.below b2)
    have BL2 := hd (boxed_below BL1.out n1 b2)
    have BR2 := hd (boxed_below BR1.out (by omega) b2)
    have hNA : N + 2 ≤ A := by omega
    clear hW2 b2 HJB HJA HB1 HI1 BL1 BR1 n1 n2 n3 blc1 hs1 hA
    refine Calls.mono (laid_is _ (.slice none 0 0) L [] W2 HI2.out ⟨by simp, .inl ⟨rfl, _, _, rfl⟩⟩ hlen) ?_
    rintro e w3 ⟨cs, wm, mm, vb, vpl, hlay, rfl, jb, ja, b3⟩
    have HS := hd (lay_scan hlen HLAY.out hlay)
    obtain ⟨ca, cc, rfl, hcc⟩ := JK.shape (k := .u8) (M := 256) (E := 5) jb
    obtain ⟨qa, qc, rfl, hqc⟩ := JK.shape (k := .i64) (M := 9223372036854775808) (E := 3) ja
    have HJC3 := hd (jb_isB3 jb)
    have HJB3 := hd (JK.keepAll (k := .u8) (M := 256) (E := 5) HJB2.out b3)
    have HJA3 := hd (JK.keepAll (k := .i64) (M := 9223372036854775808) (E := 3) HJA2.out b3)
    have HB3 := hd (HB2.out.trans (b3.mono HB2.out.size))
    have HI3 := hd (HI2.out.below b3)
    have BL3 := hd (boxed_below BL2.out (by omega) b3)
    have BR3 := hd (boxed_below BR2.out (by omega) b3)
    have BA3 := hd (boxed_below BA2.out (by omega) b3)
    have hs3 := b3.size
    have blc3 := BL3.out.cell
    rw [List.length_map] at hqc ⊢
    clear hlay jb ja b3 HJB2 HJA2 HB2 HI2 BL2 BR2 BA2 hqc HLAY
    go_wp2_with fail
    refine Calls.mono (frames_is _ _ _ _) ?_
    rintro e w4 ⟨rfl, hw4⟩
    obtain ⟨M, hM⟩ : ∃ M, M = w3.heap.size := ⟨_, rfl⟩
    have hs4 : w4.heap.size = M + 1 := by rw [hw4, hM]; simp
    have b4 : Below w3.heap.size w3 w4 := by rw [hw4]; exact (Below.refl _ _).alloc (Nat.le_refl _) _
    have BB4 := hd (show Boxed w4 M 22 (.slice ba bs.length bc) by rw [hw4, hM]; exact Boxed.new w3 _ _)
    rw [← hM]
    have HJC4 := hd (HJC3.out.below b4)
    have HJB4 := hd (JK.keepAll (k := .u8) (M := 256) (E := 5) HJB3.out b4)
    have HJBo := hd (JK.keepAll (k := .u8) (M := 256) (E := 5) HJB3.out b4)
    have HJA4 := hd (JK.keepAll (k := .i64) (M := 9223372036854775808) (E := 3) HJA3.out b4)
    have HB4 := hd (HB3.out.trans (b4.mono HB3.out.size))
    have HI4 := hd (HI3.out.below b4)
    have BL4 := hd (boxed_below BL3.out (by omega) b4)
    have BR4 := hd (boxed_below BR3.out (by omega) b4)
    have BA4 := hd (boxed_below BA3.out (by omega) b4)
    have hAM : A + 1 ≤ M := by omega
    clear hw4 b4 hM HJB3 HJA3 HB3 HI3 BL3 BR3 BA3 HJC3 blc3 hs3
    have hfn : ∀ (x : Value) (w : World), (binOp .eql 27 (.func (.func 47) #[] #[x]) Value.nilFunc).run Try.prog w = .ok (.bool false) w := fun _ _ => rfl
    go_wp2_with fail
    obtain ⟨P, hP⟩ : ∃ P, P = M + 1 := ⟨_, rfl⟩
    obtain ⟨V1, hV1⟩ : ∃ V1, V1 = w4.alloc (Obj.cells #[Value.int IntKind.i64 0] 3) := ⟨_, rfl⟩
    have hs5 : V1.heap.size = P + 1 := by rw [hV1, hP, ← hs4]; simp
    have b5 : Below w4.heap.size w4 V1 := by rw [hV1]; exact (Below.refl _ _).alloc (Nat.le_refl _) _
    have BN := hd (show Boxed V1 P 3 (.int .i64 0) by rw [hV1, hP, ← hs4]; exact Boxed.new w4 _ _)
    rw [← hV1]
    rw [← hP]
    have HJC5 := hd (HJC4.out.below b5)
    have HJB5 := hd (JK.keepAll (k := .u8) (M := 256) (E := 5) HJB4.out b5)
    have HJA5 := hd (JK.keepAll (k := .i64) (M := 9223372036854775808) (E := 3) HJA4.out b5)
    have HB5 := hd (HB4.out.trans (b5.mono HB4.out.size))
    have HI5 := hd (HI4.out.below b5)
    have BL5 := hd (boxed_below BL4.out (by omega) b5)
    have BR5 := hd (boxed_below BR4.out (by omega) b5)
    have BA5 := hd (boxed_below BA4.out (by omega) b5)
    have BB5 := hd (boxed_below BB4.out (by omega) b5)
    have HHS : Hid (w4.heap.size = P) := by rw [hP]; exact hs4
    have hPM1 : M < P := by omega
    have hPM2 : P ≤ M + 1 := by omega
    have hsV1 : P < V1.heap.size := by omega
    have HP := hd hP
    clear hP
    have HB45 := hd b5
    have HNS : Hid (N ≤ V1.heap.size) := by show N ≤ _; omega
    clear hV1 b5 HJB4 HB4 BL4 BR4 BA4 BB4
    have hlowb : ∀ b off c', bs ≠ [] → Value.slice ba bs.length bc = .slice (some ⟨b, off, none⟩) bs.length c' → b < P := fun b off c' hne e => by
      obtain ⟨_, _, ⟨h0, _⟩ | ⟨nb, no, nc, e1, _, _, hnb, hnr⟩⟩ := jb_isB3 HJBo.out
      · exact absurd h0 hne
      · rw [e] at e1; injection e1 with e1 e2 e3; injection e1 with e1; injection e1 with e1 e4; have := HHS.out; omega
    have hseq := frames_seq (fun k => k < P) M (.slice ba bs.length bc) bs V1 (by omega) (fun k hk => by omega) BB5.out.cell (jb_isB3 HJB5.out) (fun b off c' hne e => hlowb b off c' hne e)
    have HSQ := hd hseq
    have HLOW := hd hlowb
    clear hseq hlowb
    rename_i K hK
    have HK := hd hK
    clear hK
    refine (wpIn_wide (n := 8)).1 ?_
    refine wpIn_rangeFunc_X (gf := 47) (lb := #[.pointer (some ⟨M, 0, none⟩)]) rfl (enters_of Try.func47 (by kernel_rfl) rfl) HSQ.out (fun k hk => by omega) (Below.refl _ _) (fun _ => rfl)
      (TsJ P V1 wn) (fun _ (pre : List (PL bs.length)) _ _ => ¬ pre.map (fun x => lcP x.1) <+: wn.map lcP) (hs5 ▸ tsJ_abides hs5) (fun _ _ _ _ _ _ h _ _ => h) ⟨BN.out, List.nil_prefix, Below.refl _ _, by omega, fun _ h => h.elim⟩
      (fun (x : PL bs.length) a' U => ∃ Bx, P + 1 ≤ Bx ∧ Blk U Bx 41 (frv x.1.2.2) ∧ a' = { tmps := #[v0, u, Value.pointer (some { block := N, off := 0 }), undef, Value.pointer (some { block := N + 1, off := 0 }), Value.slice ba bs.length bc, Value.pointer (some { block := A, off := 0 }), Value.int IntKind.i64 (nn : Int), Value.bool true, Value.slice ca cs.length cc, Value.slice qa wm.length qc, Value.int IntKind.i64 (mm : Int), Value.bool true, Value.func (Fn.func 47) #[] #[Value.pointer (some { block := M, off := 0 })], Value.pointer (some { block := P, off := 0 }), .int .i64 (x.1.1 : Int), Value.pointer (some { block := Bx, off := 0 }), undef, undef, undef, undef, undef, undef, undef, undef, u25, u26, u27, u28, u29, Value.tuple #[Value.slice ba bs.length bc, Value.slice pa wn.length pc, Value.int IntKind.i64 (nn : Int), Value.bool true], Value.slice va L.length vc, u, Value.tuple #[Value.slice ba bs.length bc, Value.slice pa wn.length pc, Value.int IntKind.i64 (nn : Int), Value.bool true], Value.slice ba bs.length bc, Value.slice pa wn.length pc, Value.int IntKind.i64 (nn : Int), Value.bool true, Value.tuple #[Value.slice ca cs.length cc, Value.slice qa wm.length qc, Value.int IntKind.i64 (mm : Int), Value.bool true], Value.slice va L.length vc, Value.tuple #[Value.slice ca cs.length cc, Value.slice qa wm.length qc, Value.int IntKind.i64 (mm : Int), Value.bool true], Value.slice ca cs.length cc, Value.slice qa wm.length qc, Value.int IntKind.i64 (mm : Int), Value.bool true, Value.bool true, Value.bool false, Value.bool false, Value.bool true, Value.bool false, Value.bool false, Value.slice ba bs.length bc, Value.func (Fn.func 47) #[] #[Value.pointer (some { block := M, off := 0 })], Value.func (Fn.func 47) #[] #[Value.pointer (some { block := M, off := 0 })], Value.bool false, Value.func (Fn.func 47) #[] #[Value.pointer (some { block := M, off := 0 })], .int .i64 (x.1.1 : Int), .agg (frv x.1.2.2).toArray, undef, undef, undef, undef, undef, undef, undef, undef, undef, undef, undef, undef, undef, undef, undef, undef, undef, undef, undef, undef, undef, undef, undef, undef, undef, undef, undef, undef, undef, undef, undef, undef, undef, undef, undef, undef, undef, undef, undef, undef, undef, undef, undef, undef, undef, undef, undef, undef, undef, undef, undef, undef, undef, undef, undef, undef, undef, undef, undef, undef, undef, undef, undef, undef, undef, undef, undef, undef, undef, undef, undef, undef, undef, undef, undef, undef, undef, undef, undef, undef, undef, undef, undef, undef, undef, undef, undef, undef, undef, undef, undef, undef, undef, undef, undef, undef, undef, undef, undef, undef, undef, undef, undef, undef, undef, undef, undef, undef, undef, undef, undef, undef, undef, undef, undef, undef, undef, undef, undef, undef, undef, undef, undef, undef, undef, undef, undef, undef, undef, undef, undef, undef, undef, undef, undef, undef, undef, undef, undef, undef, undef, undef], defers := [] })
      (fun x a' _ V V' row hs hg hr => by
        obtain ⟨Bx, h1, h2, h3⟩ := hs
        exact ⟨Bx, h1, blkQ_kept h2 hg (fun r e => (hr r e).2), h3⟩)
      ?assign ?body ?done ?stop
    case assign =>
      rintro lk pre ⟨⟨x1, x2, k, ⟨rl, rk, rkey, rval⟩, ⟨pl, pk, pa', pn, pkey⟩, ⟨ec, eb, ef, es⟩⟩, hx⟩ X V K hi hX hK
      simp only [enc2, frv]
      gi_wp2
      have hsV := hi.2.2.2.1
      exact hK _ _ ((KeepsOthers.alloc _ _).from _) ((KeepS.refl _).alloc (fun k hk => by rcases hk with hk | hk; exact Nat.lt_of_lt_of_le (show k < P from hk) (by omega); exact (hX k hk).2) _) (tsJ_abides hs5 pre X X _ _ hi (Turned.alloc _ _) (fun _ h => .inl h)) ⟨V.heap.size, by omega, Blk.new V 41 (frv ⟨k, ⟨rl, rk, rkey, rval⟩, ⟨pl, pk, pa', pn, pkey⟩, ⟨ec, eb, ef, es⟩⟩), rfl⟩
    case stop =>
      rintro D2 c2 pre X U hD2 hp hj
      exfalso
      apply hj
      obtain ⟨r, hr⟩ := hp
      refine ⟨r.map lcP, ?_⟩
      rw [← HS.out.1, ← hr, List.map_append, List.map_map]
      rfl
    case body =>
      rintro lk pre ⟨⟨x1, x2, f⟩, hx⟩ X a' U hlk _ hX ⟨bn, hpre, hB, hsU, hXM⟩ ⟨Bx, hBx, hblk, rfl⟩ hlen
      obtain ⟨k, ⟨rl, rk, rkey, rval⟩, ⟨pl, pk, pp, pn, pkey⟩, ⟨ec, eb, ef, es⟩⟩ := f
      have hblk : Blk U Bx 41 [.int .i64 k, .int .u64 (rl : Int), .int .i64 rk, .string rkey, .string rval, .int .u64 (pl : Int), .int .i64 pk, .int .i64 pp, .int .i64 pn, .string pkey, .int .i64 ec, .int .i64 eb, .int .i64 ef, .int .u32 (es : Int)] := hblk
      have hBxU : Bx < U.heap.size := (Array.getElem?_eq_some_iff.1 hblk).1
      have k0 := hblk.cell 0 _ rfl
      have k1 := hblk.cell 1 _ rfl
      have k2 := hblk.cell 2 _ rfl
      have k3 := hblk.cell 3 _ rfl
      have k4 := hblk.cell 4 _ rfl
      have k5 := hblk.cell 5 _ rfl
      have k6 := hblk.cell 6 _ rfl
      have k7 := hblk.cell 7 _ rfl
      have k8 := hblk.cell 8 _ rfl
      have k9 := hblk.cell 9 _ rfl
      have k10 := hblk.cell 10 _ rfl
      have k11 := hblk.cell 11 _ rfl
      have k12 := hblk.cell 12 _ rfl
      have k13 := hblk.cell 13 _ rfl
      have hBW : Below w4.heap.size w4 U := HB45.out.trans (HHS.out.symm ▸ hB)
      have cn := bn.cell
      have cl := (boxed_below BL5.out (by omega) hB).cell
      have ca0 := (boxed_below BA5.out (by omega) hB).cell
      have hPU : P < U.heap.size := by omega
      have hNU : N < U.heap.size := by omega
      have hAU : A < U.heap.size := by omega
      have HMP : Hid ((pre ++ [(⟨(x1, x2, ⟨k, ⟨rl, rk, rkey, rval⟩, ⟨pl, pk, pp, pn, pkey⟩, ⟨ec, eb, ef, es⟩⟩), hx⟩ : PL bs.length)]).map (fun x => lcP x.1) = pre.map (fun x => lcP x.1) ++ [(x1, ⟨k, ⟨rl, rk, rkey, rval⟩, ⟨pl, pk, pp, pn, pkey⟩, ⟨ec, eb, ef, es⟩⟩)]) := by
        show _ = _
        rw [List.map_append, List.map_singleton]
        rfl
      have HPL : Hid ((pre.map (fun x => lcP x.1)).length = pre.length) := List.length_map _
      have HPRE := hd hpre
      have HB := hd hB
      have HBNU := hd bn
      have HIU := hd (HI4.out.below hBW)
      have HJAU := hd (JK.keepAll (k := .i64) (M := 9223372036854775808) (E := 3) HJA4.out hBW)
      have HXM := hd hXM
      have HX := hd hX
      have HWL := hd HS.out.2.1
      have hN1U : N + 1 < U.heap.size := by omega
      have HBRU := hd (boxed_below BR5.out (by omega) hB)
      clear hpre hB bn hXM hX hBW
      by_cases hlt : pre.length < L.length
      · have hge : ¬ ((pre.length : Int) ≥ (L.length : Int)) := by omega
        obtain ⟨x, hxr⟩ : ∃ x, L[pre.length]? = some x := ⟨_, List.getElem?_eq_getElem hlt⟩
        obtain ⟨hy1, hy2, hy3, hy4⟩ := HIU.out.1 x (List.mem_of_getElem? hxr)
        obtain ⟨⟨p0, n0, f0⟩, hlc, hf0⟩ := HS.out.2.2.2.2.2.2.2.2.2 _ _ hxr
        simp only at hf0
        obtain ⟨lb, lo, rfl, hlU, hop⟩ : ∃ b off, va = some ⟨b, off, none⟩ ∧ b < U.heap.size ∧ ∀ j u, (wcl x)[j]? = some u → U.cell? ⟨b, off + pre.length * 4 + j, none⟩ = some u := by
          rcases HIU.out.2 with ⟨e, _⟩ | ⟨b, off, c, he, hlc, hcm, hb, hop⟩
          · rw [e] at hlt; simp at hlt
          · injection he with he1 he2 he3
            exact ⟨b, off, he1, hb, hop _ x hxr⟩
        have m0 := hop 0 _ rfl
        have m1 := hop 1 _ rfl
        have m2 := hop 2 _ rfl
        have m3 := hop 3 _ rfl
        rw [Nat.add_zero] at m0
        have hat : (wn.map fun x => x.1)[pre.length]? = some p0 := by rw [List.getElem?_map, hlc]; rfl
        have hlw : pre.length < wn.length := by rw [HWL.out]; exact hlt
        obtain ⟨g5, go, rfl, hgU, cp⟩ : ∃ pb po, pa = some ⟨pb, po, none⟩ ∧ pb < U.heap.size ∧ U.cell? ⟨pb, po + pre.length, none⟩ = some (.int .i64 (p0 : Int)) := by
          obtain ⟨_, _, ⟨e, _⟩ | ⟨pb, po, pc2, e, _, _, hpb, hrw⟩⟩ := JK.isK (k := .i64) (M := 9223372036854775808) (E := 3) HJAU.out
          · have := congrArg List.length e; rw [List.length_map, List.length_nil] at this; omega
          · injection e with e1 e2 e3
            have hgd : (wn.map fun x => x.1).getD pre.length 0 = p0 := by rw [List.getD_eq_getElem?_getD, hat]; rfl
            exact ⟨pb, po, e1, hpb, by have := hrw pre.length (by rw [List.length_map]; exact hlw); rw [hgd] at this; exact this⟩
        have HREC : Hid (∀ W : World, Calls Try.prog 37 #[.agg #[.int .i64 x.k, .int .i64 x.y, .int .i64 x.v, .int .i64 x.n], .int .u64 ((pre.length : Int) + 1)] W fun e w' => e = .returned (.agg #[.int .u64 ((pre.length : Int) + 1), .int .i64 (rcQ x.k x.y x.v (pre.length + 1)).kind, .string (rcQ x.k x.y x.v (pre.length + 1)).key, .string (rcQ x.k x.y x.v (pre.length + 1)).val]) ∧ Below W.heap.size W w') := fun W => by
          have := recordOf_eq x.k x.y x.v x.n (pre.length + 1) W hy1 hy2 hy3
          rw [Int.natCast_add] at this
          exact this
        have hlsn : (rcQ x.k x.y x.v (pre.length + 1)).lsn = pre.length + 1 := (rcQ_may x.k x.y x.v (n := pre.length + 1) (by omega) (by omega)).1
        obtain ⟨rqk, hrqk⟩ : ∃ z, z = (rcQ x.k x.y x.v (pre.length + 1)).kind := ⟨_, rfl⟩
        obtain ⟨rqy, hrqy⟩ : ∃ z, z = (rcQ x.k x.y x.v (pre.length + 1)).key := ⟨_, rfl⟩
        obtain ⟨rqv, hrqv⟩ : ∃ z, z = (rcQ x.k x.y x.v (pre.length + 1)).val := ⟨_, rfl⟩
        have hfq : f0 = ⟨rqk, ⟨pre.length + 1, rqk, rqy, rqv⟩, zp, ze⟩ := by
          rw [hf0, hrqk, hrqy, hrqv]
          generalize rcQ x.k x.y x.v (pre.length + 1) = R at hlsn
          obtain ⟨ra, rb, rc, rd⟩ := R
          simp only at hlsn
          subst hlsn
          rfl
        rw [← hrqk, ← hrqy, ← hrqv] at HREC
        clear hrqk hrqy hrqv hlsn hf0
        subst hfq
        have HLC : Hid ((wn.map lcP)[pre.length]? = some (p0, ⟨rqk, ⟨pre.length + 1, rqk, rqy, rqv⟩, zp, ze⟩)) := by
          show _ = _
          rw [List.getElem?_map, hlc]; rfl
        have hw1 : IntKind.i64.wrap ((pre.length : Int) + 1) = (pre.length : Int) + 1 := wrapA (by omega)
        have hw2 : IntKind.u64.wrap ((pre.length : Int) + 1) = (pre.length : Int) + 1 := wrapB (by omega)
        obtain ⟨bb, hbb, hbf⟩ := neq_any ⟨k, ⟨rl, rk, rkey, rval⟩, ⟨pl, pk, pp, pn, pkey⟩, ⟨ec, eb, ef, es⟩⟩ ⟨k, ⟨pre.length + 1, rqk, rqy, rqv⟩, zp, ze⟩
        have heq : ∀ w, (binOp .neq 41 (.agg #[.int .i64 k, .int .u64 (rl : Int), .int .i64 rk, .string rkey, .string rval, .int .u64 (pl : Int), .int .i64 pk, .int .i64 pp, .int .i64 pn, .string pkey, .int .i64 ec, .int .i64 eb, .int .i64 ef, .int .u32 (es : Int)]) (.agg #[.int .i64 k, .int .u64 ((pre.length : Int) + 1), .int .i64 rqk, .string rqy, .string rqv, .int .u64 0, .int .i64 0, .int .i64 0, .int .i64 0, .string ⟨#[]⟩, .int .i64 0, .int .i64 0, .int .i64 0, .int .u32 0])).run Try.prog w = .ok (.bool bb) w := hbb
        clear hbb hop hy1 hy2 hy3 hy4 hat hlc hxr
        by_cases hp : x1 = p0
        · subst hp
          cases bb with
          | true =>
            have HNO : Hid (¬ pre.map (fun x => lcP x.1) ++ [(x1, ⟨k, ⟨rl, rk, rkey, rval⟩, ⟨pl, pk, pp, pn, pkey⟩, ⟨ec, eb, ef, es⟩⟩)] <+: wn.map lcP) := hd (pre_snoc_no (by
              rw [HPL.out]
              intro e
              have e2 := HLC.out.symm.trans e
              injection e2 with e2
              injection e2 with _ e2
              have e3 := congrArg Fr.kind e2
              simp only at e3
              have := hbf.2 (by rw [← e2, e3])
              cases this))
            clear hbf
            gi_wp2
            refine region_skipIn (fun i9 v9 _ => match i9 with
              | 0 => v9 = .int .i64 (pre.length : Int)
              | 1 => v9 = .slice (some ⟨lb, lo, none⟩) L.length vc
              | 2 => v9 = .int .i64 (L.length : Int)
              | 3 => v9 = .bool false
              | 4 => v9 = .bool false
              | 5 => v9 = .int .i64 (x1 : Int)
              | 6 => v9 = .slice (some ⟨g5, go, none⟩) wn.length pc
              | 7 => v9 = .int .i64 (pre.length : Int)
              | 8 => v9 = .pointer (some ⟨g5, go + pre.length, none⟩)
              | 9 => v9 = .int .i64 (x1 : Int)
              | 10 => v9 = .bool false
              | 11 => v9 = .bool false
              | 12 => v9 = .bool false
              | 13 => v9 = .agg #[.int .i64 k, .int .u64 (rl : Int), .int .i64 rk, .string rkey, .string rval, .int .u64 (pl : Int), .int .i64 pk, .int .i64 pp, .int .i64 pn, .string pkey, .int .i64 ec, .int .i64 eb, .int .i64 ef, .int .u32 (es : Int)]
              | 14 => v9 = .pointer (some ⟨Bx, 0, none⟩)
              | 15 => v9 = .int .i64 k
              | 16 => v9 = .slice (some ⟨lb, lo, none⟩) L.length vc
              | 17 => v9 = .int .i64 (pre.length : Int)
              | 18 => v9 = .pointer (some ⟨lb, lo + pre.length * 4, none⟩)
              | 19 => v9 = .agg #[.int .i64 x.k, .int .i64 x.y, .int .i64 x.v, .int .i64 x.n]
              | 20 => v9 = .int .i64 (pre.length : Int)
              | 21 => v9 = .int .i64 ((pre.length : Int) + 1)
              | 22 => v9 = .int .u64 ((pre.length : Int) + 1)
              | 23 => v9 = .agg #[.int .u64 ((pre.length : Int) + 1), .int .i64 rqk, .string rqy, .string rqv]
              | 24 => v9 = .agg #[.int .i64 k, .int .u64 ((pre.length : Int) + 1), .int .i64 rqk, .string rqy, .string rqv, .int .u64 0, .int .i64 0, .int .i64 0, .int .i64 0, .string ⟨#[]⟩, .int .i64 0, .int .i64 0, .int .i64 0, .int .u32 0]
              | 25 => v9 = .bool true
              | 26 => v9 = .bool true
              | 27 => v9 = .bool true
              | 28 => v9 = undef
              | 29 => v9 = undef
              | 30 => v9 = undef
              | 31 => v9 = undef
              | 32 => v9 = undef
              | 33 => v9 = undef
              | _ => v9 = .bool true) (fun w => Below U.heap.size U w) (fun _ => trivial) hmx (by kernel_rfl) (by kernel_rfl) ((Below.refl _ _).drew) ?_ ?_ ?_
            · intro i9 v9 w8 w9 _ _ hb hG
              match i9, hG with
              | 0, h => exact h
              | 1, h => exact h
              | 2, h => exact h
              | 3, h => exact h
              | 4, h => exact h
              | 5, h => exact h
              | 6, h => exact h
              | 7, h => exact h
              | 8, h => exact h
              | 9, h => exact h
              | 10, h => exact h
              | 11, h => exact h
              | 12, h => exact h
              | 13, h => exact h
              | 14, h => exact h
              | 15, h => exact h
              | 16, h => exact h
              | 17, h => exact h
              | 18, h => exact h
              | 19, h => exact h
              | 20, h => exact h
              | 21, h => exact h
              | 22, h => exact h
              | 23, h => exact h
              | 24, h => exact h
              | 25, h => exact h
              | 26, h => exact h
              | 27, h => exact h
              | 28, h => exact h
              | 29, h => exact h
              | 30, h => exact h
              | 31, h => exact h
              | 32, h => exact h
              | 33, h => exact h
              | n + 34, h => exact h
            · intro i9 o9 ho a9 w9 hW hdf hsz hout haf
              have ee2 := getq (show a9.tmps.getD 2 undef = Value.pointer (some { block := N, off := 0 }) from hout 2 (notDst_spec (by kernel_rfl)))
              have ee6 := getq (show a9.tmps.getD 6 undef = Value.pointer (some { block := A, off := 0 }) from hout 6 (notDst_spec (by kernel_rfl)))
              have ee14 := getq (show a9.tmps.getD 14 undef = Value.pointer (some { block := P, off := 0 }) from hout 14 (notDst_spec (by kernel_rfl)))
              have ee15 := getq (show a9.tmps.getD 15 undef = .int .i64 (x1 : Int) from hout 15 (notDst_spec (by kernel_rfl)))
              have ee16 := getq (show a9.tmps.getD 16 undef = Value.pointer (some { block := Bx, off := 0 }) from hout 16 (notDst_spec (by kernel_rfl)))
              have hsz2 : a9.tmps.size = 200 := hsz
              clear hout hsz hdf
              match i9, ho, haf with
              | 0, ho, haf =>
                obtain rfl := Option.some.inj ho
                refine skip_goodIn _ (wanted_none rfl) ?_
                clear haf ho hsz2
                intro K hK
                simp only [List.getElem_toArray, List.getElem_cons_zero] at hK ⊢
                have z0 := (hW.cell (p := ⟨P, 0, none⟩) hPU).trans cn
                go_simp
                exact hK _ _ ⟨Below.refl _ _, hW, rfl⟩
              | 1, ho, haf =>
                obtain rfl := Option.some.inj ho
                refine skip_goodIn _ (wanted_none rfl) ?_
                clear haf ho hsz2
                intro K hK
                simp only [List.getElem_toArray, List.getElem_cons_succ, List.getElem_cons_zero] at hK ⊢
                have z0 := (hW.cell (p := ⟨N, 0, none⟩) hNU).trans cl
                go_simp
                exact hK _ _ ⟨Below.refl _ _, hW, rfl⟩
              | 2, ho, haf =>
                obtain rfl := Option.some.inj ho
                have f1 := getq (show a9.tmps.getD 59 undef = .slice (some ⟨lb, lo, none⟩) L.length vc from haf ⟨1, .data⟩ (by simp) rfl)
                refine skip_goodIn _ (wanted_none rfl) ?_
                clear haf ho hsz2
                intro K hK
                simp only [List.getElem_toArray, List.getElem_cons_succ, List.getElem_cons_zero] at hK ⊢
                go_simp
                exact hK _ _ ⟨Below.refl _ _, hW, rfl⟩
              | 3, ho, haf =>
                obtain rfl := Option.some.inj ho
                have f0 := getq (show a9.tmps.getD 58 undef = .int .i64 (pre.length : Int) from haf ⟨0, .data⟩ (by simp) rfl)
                have f2 := getq (show a9.tmps.getD 60 undef = .int .i64 (L.length : Int) from haf ⟨2, .data⟩ (by simp) rfl)
                refine skip_goodIn _ (wanted_none rfl) ?_
                clear haf ho hsz2
                intro K hK
                simp only [List.getElem_toArray, List.getElem_cons_succ, List.getElem_cons_zero] at hK ⊢
                go_simp
                exact hK _ _ ⟨Below.refl _ _, hW, (by first | rfl | (simp only [Value.bool.injEq, decide_eq_false_iff_not]; omega) | (simp only [Value.bool.injEq, decide_eq_true_eq]; omega))⟩
              | 4, ho, haf =>
                obtain rfl := Option.some.inj ho
                have f3 := getq (show a9.tmps.getD 61 undef = .bool false from haf ⟨3, .data⟩ (by simp) rfl)
                refine skip_goodIn _ (wanted_none rfl) ?_
                clear haf ho hsz2
                intro K hK
                simp only [List.getElem_toArray, List.getElem_cons_succ, List.getElem_cons_zero] at hK ⊢
                go_simp
                exact hK _ _ ⟨Below.refl _ _, hW, rfl⟩
              | 5, ho, haf =>
                obtain rfl := Option.some.inj ho
                have gg : a9.tmps.getD 62 undef = .bool false := haf ⟨4, .guard⟩ (by simp) rfl
                refine skip_goodIn _ (wanted_some rfl (yielded_of (d := 62) rfl (by omega) gg)) ?_
                clear haf ho hsz2 gg
                intro K hK
                simp only [List.getElem_toArray, List.getElem_cons_succ, List.getElem_cons_zero] at hK ⊢
                go_simp
                exact hK _ _ ⟨Below.refl _ _, hW, rfl⟩
              | 6, ho, haf =>
                obtain rfl := Option.some.inj ho
                have gg : a9.tmps.getD 62 undef = .bool false := haf ⟨4, .guard⟩ (by simp) rfl
                refine skip_goodIn _ (wanted_some rfl (yielded_of (d := 62) rfl (by omega) gg)) ?_
                clear haf ho hsz2 gg
                intro K hK
                simp only [List.getElem_toArray, List.getElem_cons_succ, List.getElem_cons_zero] at hK ⊢
                have z0 := (hW.cell (p := ⟨A, 0, none⟩) hAU).trans ca0
                go_simp
                exact hK _ _ ⟨Below.refl _ _, hW, rfl⟩
              | 7, ho, haf =>
                obtain rfl := Option.some.inj ho
                have gg : a9.tmps.getD 62 undef = .bool false := haf ⟨4, .guard⟩ (by simp) rfl
                refine skip_goodIn _ (wanted_some rfl (yielded_of (d := 62) rfl (by omega) gg)) ?_
                clear haf ho hsz2 gg
                intro K hK
                simp only [List.getElem_toArray, List.getElem_cons_succ, List.getElem_cons_zero] at hK ⊢
                have z0 := (hW.cell (p := ⟨P, 0, none⟩) hPU).trans cn
                go_simp
                exact hK _ _ ⟨Below.refl _ _, hW, rfl⟩
              | 8, ho, haf =>
                obtain rfl := Option.some.inj ho
                have gg : a9.tmps.getD 62 undef = .bool false := haf ⟨4, .guard⟩ (by simp) rfl
                have f6 := getq (show a9.tmps.getD 64 undef = .slice (some ⟨g5, go, none⟩) wn.length pc from haf ⟨6, .data⟩ (by simp) rfl)
                have f7 := getq (show a9.tmps.getD 65 undef = .int .i64 (pre.length : Int) from haf ⟨7, .data⟩ (by simp) rfl)
                refine skip_goodIn _ (wanted_some rfl (yielded_of (d := 62) rfl (by omega) gg)) ?_
                clear haf ho hsz2 gg
                intro K hK
                simp only [List.getElem_toArray, List.getElem_cons_succ, List.getElem_cons_zero] at hK ⊢
                go_simp
                exact hK _ _ ⟨Below.refl _ _, hW, rfl⟩
              | 9, ho, haf =>
                obtain rfl := Option.some.inj ho
                have gg : a9.tmps.getD 62 undef = .bool false := haf ⟨4, .guard⟩ (by simp) rfl
                have f8 := getq (show a9.tmps.getD 66 undef = .pointer (some ⟨g5, go + pre.length, none⟩) from haf ⟨8, .data⟩ (by simp) rfl)
                refine skip_goodIn _ (wanted_some rfl (yielded_of (d := 62) rfl (by omega) gg)) ?_
                clear haf ho hsz2 gg
                intro K hK
                simp only [List.getElem_toArray, List.getElem_cons_succ, List.getElem_cons_zero] at hK ⊢
                have z0 := (hW.cell (p := ⟨g5, go + pre.length, none⟩) hgU).trans cp
                go_simp
                exact hK _ _ ⟨Below.refl _ _, hW, rfl⟩
              | 10, ho, haf =>
                obtain rfl := Option.some.inj ho
                have gg : a9.tmps.getD 62 undef = .bool false := haf ⟨4, .guard⟩ (by simp) rfl
                have f5 := getq (show a9.tmps.getD 63 undef = .int .i64 (x1 : Int) from haf ⟨5, .data⟩ (by simp) rfl)
                have f9 := getq (show a9.tmps.getD 67 undef = .int .i64 (x1 : Int) from haf ⟨9, .data⟩ (by simp) rfl)
                refine skip_goodIn _ (wanted_some rfl (yielded_of (d := 62) rfl (by omega) gg)) ?_
                clear haf ho hsz2 gg
                intro K hK
                simp only [List.getElem_toArray, List.getElem_cons_succ, List.getElem_cons_zero] at hK ⊢
                go_simp
                exact hK _ _ ⟨Below.refl _ _, hW, rfl⟩
              | 11, ho, haf =>
                obtain rfl := Option.some.inj ho
                have f4 := getq (show a9.tmps.getD 62 undef = .bool false from haf ⟨4, .data⟩ (by simp) rfl)
                have f10 := getq (show a9.tmps.getD 68 undef = .bool false from haf ⟨10, .data⟩ (by simp) rfl)
                refine skip_goodIn _ (wanted_none rfl) ?_
                clear haf ho hsz2
                intro K hK
                simp only [List.getElem_toArray, List.getElem_cons_succ, List.getElem_cons_zero] at hK ⊢
                go_simp
                exact hK _ _ ⟨Below.refl _ _, hW, rfl⟩
              | 12, ho, haf =>
                obtain rfl := Option.some.inj ho
                have f11 := getq (show a9.tmps.getD 69 undef = .bool false from haf ⟨11, .data⟩ (by simp) rfl)
                refine skip_goodIn _ (wanted_none rfl) ?_
                clear haf ho hsz2
                intro K hK
                simp only [List.getElem_toArray, List.getElem_cons_succ, List.getElem_cons_zero] at hK ⊢
                go_simp
                exact hK _ _ ⟨Below.refl _ _, hW, rfl⟩
              | 13, ho, haf =>
                obtain rfl := Option.some.inj ho
                have gg : a9.tmps.getD 70 undef = .bool false := haf ⟨12, .guard⟩ (by simp) rfl
                refine skip_goodIn _ (wanted_some rfl (yielded_of (d := 70) rfl (by omega) gg)) ?_
                clear haf ho hsz2 gg
                intro K hK
                simp only [List.getElem_toArray, List.getElem_cons_succ, List.getElem_cons_zero] at hK ⊢
                have z0 := (hW.cell (p := ⟨Bx, 0, none⟩) hBxU).trans k0
                have z1 := (hW.cell (p := ⟨Bx, 1, none⟩) hBxU).trans k1
                have z2 := (hW.cell (p := ⟨Bx, 2, none⟩) hBxU).trans k2
                have z3 := (hW.cell (p := ⟨Bx, 3, none⟩) hBxU).trans k3
                have z4 := (hW.cell (p := ⟨Bx, 4, none⟩) hBxU).trans k4
                have z5 := (hW.cell (p := ⟨Bx, 5, none⟩) hBxU).trans k5
                have z6 := (hW.cell (p := ⟨Bx, 6, none⟩) hBxU).trans k6
                have z7 := (hW.cell (p := ⟨Bx, 7, none⟩) hBxU).trans k7
                have z8 := (hW.cell (p := ⟨Bx, 8, none⟩) hBxU).trans k8
                have z9 := (hW.cell (p := ⟨Bx, 9, none⟩) hBxU).trans k9
                have z10 := (hW.cell (p := ⟨Bx, 10, none⟩) hBxU).trans k10
                have z11 := (hW.cell (p := ⟨Bx, 11, none⟩) hBxU).trans k11
                have z12 := (hW.cell (p := ⟨Bx, 12, none⟩) hBxU).trans k12
                have z13 := (hW.cell (p := ⟨Bx, 13, none⟩) hBxU).trans k13
                go_simp
                exact hK _ _ ⟨Below.refl _ _, hW, rfl⟩
              | 14, ho, haf =>
                obtain rfl := Option.some.inj ho
                have gg : a9.tmps.getD 70 undef = .bool false := haf ⟨12, .guard⟩ (by simp) rfl
                refine skip_goodIn _ (wanted_some rfl (yielded_of (d := 70) rfl (by omega) gg)) ?_
                clear haf ho hsz2 gg
                intro K hK
                simp only [List.getElem_toArray, List.getElem_cons_succ, List.getElem_cons_zero] at hK ⊢
                go_simp
                exact hK _ _ ⟨Below.refl _ _, hW, rfl⟩
              | 15, ho, haf =>
                obtain rfl := Option.some.inj ho
                have gg : a9.tmps.getD 70 undef = .bool false := haf ⟨12, .guard⟩ (by simp) rfl
                have f14 := getq (show a9.tmps.getD 72 undef = .pointer (some ⟨Bx, 0, none⟩) from haf ⟨14, .data⟩ (by simp) rfl)
                refine skip_goodIn _ (wanted_some rfl (yielded_of (d := 70) rfl (by omega) gg)) ?_
                clear haf ho hsz2 gg
                intro K hK
                simp only [List.getElem_toArray, List.getElem_cons_succ, List.getElem_cons_zero] at hK ⊢
                have z0 := (hW.cell (p := ⟨Bx, 0, none⟩) hBxU).trans k0
                go_simp
                exact hK _ _ ⟨Below.refl _ _, hW, rfl⟩
              | 16, ho, haf =>
                obtain rfl := Option.some.inj ho
                have gg : a9.tmps.getD 70 undef = .bool false := haf ⟨12, .guard⟩ (by simp) rfl
                refine skip_goodIn _ (wanted_some rfl (yielded_of (d := 70) rfl (by omega) gg)) ?_
                clear haf ho hsz2 gg
                intro K hK
                simp only [List.getElem_toArray, List.getElem_cons_succ, List.getElem_cons_zero] at hK ⊢
                have z0 := (hW.cell (p := ⟨N, 0, none⟩) hNU).trans cl
                go_simp
                exact hK _ _ ⟨Below.refl _ _, hW, rfl⟩
              | 17, ho, haf =>
                obtain rfl := Option.some.inj ho
                have gg : a9.tmps.getD 70 undef = .bool false := haf ⟨12, .guard⟩ (by simp) rfl
                refine skip_goodIn _ (wanted_some rfl (yielded_of (d := 70) rfl (by omega) gg)) ?_
                clear haf ho hsz2 gg
                intro K hK
                simp only [List.getElem_toArray, List.getElem_cons_succ, List.getElem_cons_zero] at hK ⊢
                have z0 := (hW.cell (p := ⟨P, 0, none⟩) hPU).trans cn
                go_simp
                exact hK _ _ ⟨Below.refl _ _, hW, rfl⟩
              | 18, ho, haf =>
                obtain rfl := Option.some.inj ho
                have gg : a9.tmps.getD 70 undef = .bool false := haf ⟨12, .guard⟩ (by simp) rfl
                have f16 := getq (show a9.tmps.getD 74 undef = .slice (some ⟨lb, lo, none⟩) L.length vc from haf ⟨16, .data⟩ (by simp) rfl)
                have f17 := getq (show a9.tmps.getD 75 undef = .int .i64 (pre.length : Int) from haf ⟨17, .data⟩ (by simp) rfl)
                refine skip_goodIn _ (wanted_some rfl (yielded_of (d := 70) rfl (by omega) gg)) ?_
                clear haf ho hsz2 gg
                intro K hK
                simp only [List.getElem_toArray, List.getElem_cons_succ, List.getElem_cons_zero] at hK ⊢
                go_simp
                exact hK _ _ ⟨Below.refl _ _, hW, rfl⟩
              | 19, ho, haf =>
                obtain rfl := Option.some.inj ho
                have gg : a9.tmps.getD 70 undef = .bool false := haf ⟨12, .guard⟩ (by simp) rfl
                have f18 := getq (show a9.tmps.getD 76 undef = .pointer (some ⟨lb, lo + pre.length * 4, none⟩) from haf ⟨18, .data⟩ (by simp) rfl)
                refine skip_goodIn _ (wanted_some rfl (yielded_of (d := 70) rfl (by omega) gg)) ?_
                clear haf ho hsz2 gg
                intro K hK
                simp only [List.getElem_toArray, List.getElem_cons_succ, List.getElem_cons_zero] at hK ⊢
                have z0 := (hW.cell (p := ⟨lb, lo + pre.length * 4, none⟩) hlU).trans m0
                have z1 := (hW.cell (p := ⟨lb, lo + pre.length * 4 + 1, none⟩) hlU).trans m1
                have z2 := (hW.cell (p := ⟨lb, lo + pre.length * 4 + 2, none⟩) hlU).trans m2
                have z3 := (hW.cell (p := ⟨lb, lo + pre.length * 4 + 3, none⟩) hlU).trans m3
                go_simp
                exact hK _ _ ⟨Below.refl _ _, hW, rfl⟩
              | 20, ho, haf =>
                obtain rfl := Option.some.inj ho
                have gg : a9.tmps.getD 70 undef = .bool false := haf ⟨12, .guard⟩ (by simp) rfl
                refine skip_goodIn _ (wanted_some rfl (yielded_of (d := 70) rfl (by omega) gg)) ?_
                clear haf ho hsz2 gg
                intro K hK
                simp only [List.getElem_toArray, List.getElem_cons_succ, List.getElem_cons_zero] at hK ⊢
                have z0 := (hW.cell (p := ⟨P, 0, none⟩) hPU).trans cn
                go_simp
                exact hK _ _ ⟨Below.refl _ _, hW, rfl⟩
              | 21, ho, haf =>
                obtain rfl := Option.some.inj ho
                have gg : a9.tmps.getD 70 undef = .bool false := haf ⟨12, .guard⟩ (by simp) rfl
                have f20 := getq (show a9.tmps.getD 78 undef = .int .i64 (pre.length : Int) from haf ⟨20, .data⟩ (by simp) rfl)
                refine skip_goodIn _ (wanted_some rfl (yielded_of (d := 70) rfl (by omega) gg)) ?_
                clear haf ho hsz2 gg
                intro K hK
                simp only [List.getElem_toArray, List.getElem_cons_succ, List.getElem_cons_zero] at hK ⊢
                have zz := hw1
                go_simp
                exact hK _ _ ⟨Below.refl _ _, hW, rfl⟩
              | 22, ho, haf =>
                obtain rfl := Option.some.inj ho
                have gg : a9.tmps.getD 70 undef = .bool false := haf ⟨12, .guard⟩ (by simp) rfl
                have f21 := getq (show a9.tmps.getD 79 undef = .int .i64 ((pre.length : Int) + 1) from haf ⟨21, .data⟩ (by simp) rfl)
                refine skip_goodIn _ (wanted_some rfl (yielded_of (d := 70) rfl (by omega) gg)) ?_
                clear haf ho hsz2 gg
                intro K hK
                simp only [List.getElem_toArray, List.getElem_cons_succ, List.getElem_cons_zero] at hK ⊢
                have zz := hw2
                go_simp
                exact hK _ _ ⟨Below.refl _ _, hW, rfl⟩
              | 23, ho, haf =>
                obtain rfl := Option.some.inj ho
                have gg : a9.tmps.getD 70 undef = .bool false := haf ⟨12, .guard⟩ (by simp) rfl
                have f19 := getq (show a9.tmps.getD 77 undef = .agg #[.int .i64 x.k, .int .i64 x.y, .int .i64 x.v, .int .i64 x.n] from haf ⟨19, .data⟩ (by simp) rfl)
                have f22 := getq (show a9.tmps.getD 80 undef = .int .u64 ((pre.length : Int) + 1) from haf ⟨22, .data⟩ (by simp) rfl)
                refine skip_goodIn _ (wanted_some rfl (yielded_of (d := 70) rfl (by omega) gg)) ?_
                clear haf ho hsz2 gg
                intro K hK
                simp only [List.getElem_toArray, List.getElem_cons_succ, List.getElem_cons_zero] at hK ⊢
                go_simp
                refine ⟨trivial, CallsIn.mono (CallsIn.inRound lk (callsIn_wide.2 (HREC.out w9))) ?_⟩
                rintro e9 w8 ⟨rfl, hb9⟩
                exact hK _ _ ⟨hb9, hW.trans (hb9.mono hW.size), rfl⟩
              | 24, ho, haf =>
                obtain rfl := Option.some.inj ho
                have gg : a9.tmps.getD 70 undef = .bool false := haf ⟨12, .guard⟩ (by simp) rfl
                have f15 := getq (show a9.tmps.getD 73 undef = .int .i64 k from haf ⟨15, .data⟩ (by simp) rfl)
                have f23 := getq (show a9.tmps.getD 81 undef = .agg #[.int .u64 ((pre.length : Int) + 1), .int .i64 rqk, .string rqy, .string rqv] from haf ⟨23, .data⟩ (by simp) rfl)
                refine skip_goodIn _ (wanted_some rfl (yielded_of (d := 70) rfl (by omega) gg)) ?_
                clear haf ho hsz2 gg
                intro K hK
                simp only [List.getElem_toArray, List.getElem_cons_succ, List.getElem_cons_zero] at hK ⊢
                go_simp
                exact hK _ _ ⟨Below.refl _ _, hW, rfl⟩
              | 25, ho, haf =>
                obtain rfl := Option.some.inj ho
                have gg : a9.tmps.getD 70 undef = .bool false := haf ⟨12, .guard⟩ (by simp) rfl
                have f13 := getq (show a9.tmps.getD 71 undef = .agg #[.int .i64 k, .int .u64 (rl : Int), .int .i64 rk, .string rkey, .string rval, .int .u64 (pl : Int), .int .i64 pk, .int .i64 pp, .int .i64 pn, .string pkey, .int .i64 ec, .int .i64 eb, .int .i64 ef, .int .u32 (es : Int)] from haf ⟨13, .data⟩ (by simp) rfl)
                have f24 := getq (show a9.tmps.getD 82 undef = .agg #[.int .i64 k, .int .u64 ((pre.length : Int) + 1), .int .i64 rqk, .string rqy, .string rqv, .int .u64 0, .int .i64 0, .int .i64 0, .int .i64 0, .string ⟨#[]⟩, .int .i64 0, .int .i64 0, .int .i64 0, .int .u32 0] from haf ⟨24, .data⟩ (by simp) rfl)
                refine skip_goodIn _ (wanted_some rfl (yielded_of (d := 70) rfl (by omega) gg)) ?_
                clear haf ho hsz2 gg
                intro K hK
                simp only [List.getElem_toArray, List.getElem_cons_succ, List.getElem_cons_zero] at hK ⊢
                go_simp
                exact hK _ _ ⟨Below.refl _ _, hW, rfl⟩
              | 26, ho, haf =>
                obtain rfl := Option.some.inj ho
                have f12 := getq (show a9.tmps.getD 70 undef = .bool false from haf ⟨12, .data⟩ (by simp) rfl)
                have f25 := getq (show a9.tmps.getD 83 undef = .bool true from haf ⟨25, .data⟩ (by simp) rfl)
                refine skip_goodIn _ (wanted_none rfl) ?_
                clear haf ho hsz2
                intro K hK
                simp only [List.getElem_toArray, List.getElem_cons_succ, List.getElem_cons_zero] at hK ⊢
                go_simp
                exact hK _ _ ⟨Below.refl _ _, hW, rfl⟩
              | 27, ho, haf =>
                obtain rfl := Option.some.inj ho
                have f26 := getq (show a9.tmps.getD 84 undef = .bool true from haf ⟨26, .data⟩ (by simp) rfl)
                refine skip_goodIn _ (wanted_none rfl) ?_
                clear haf ho hsz2
                intro K hK
                simp only [List.getElem_toArray, List.getElem_cons_succ, List.getElem_cons_zero] at hK ⊢
                go_simp
                exact hK _ _ ⟨Below.refl _ _, hW, rfl⟩
              | 28, ho, haf =>
                obtain rfl := Option.some.inj ho
                have gg : a9.tmps.getD 85 undef = .bool true := haf ⟨27, .guard⟩ (by simp) rfl
                exact skip_no (b := true) rfl (yielded_of (d := 85) rfl (by omega) gg) rfl
              | 29, ho, haf =>
                obtain rfl := Option.some.inj ho
                have gg : a9.tmps.getD 85 undef = .bool true := haf ⟨27, .guard⟩ (by simp) rfl
                exact skip_no (b := true) rfl (yielded_of (d := 85) rfl (by omega) gg) rfl
              | 30, ho, haf =>
                obtain rfl := Option.some.inj ho
                have gg : a9.tmps.getD 85 undef = .bool true := haf ⟨27, .guard⟩ (by simp) rfl
                exact skip_no (b := true) rfl (yielded_of (d := 85) rfl (by omega) gg) rfl
              | 31, ho, haf =>
                obtain rfl := Option.some.inj ho
                have gg : a9.tmps.getD 85 undef = .bool true := haf ⟨27, .guard⟩ (by simp) rfl
                exact skip_no (b := true) rfl (yielded_of (d := 85) rfl (by omega) gg) rfl
              | 32, ho, haf =>
                obtain rfl := Option.some.inj ho
                have gg : a9.tmps.getD 85 undef = .bool true := haf ⟨27, .guard⟩ (by simp) rfl
                exact skip_no (b := true) rfl (yielded_of (d := 85) rfl (by omega) gg) rfl
              | 33, ho, haf =>
                obtain rfl := Option.some.inj ho
                have gg : a9.tmps.getD 85 undef = .bool true := haf ⟨27, .guard⟩ (by simp) rfl
                exact skip_no (b := true) rfl (yielded_of (d := 85) rfl (by omega) gg) rfl
              | 34, ho, haf =>
                obtain rfl := Option.some.inj ho
                have f27 := getq (show a9.tmps.getD 85 undef = .bool true from haf ⟨27, .data⟩ (by simp) rfl)
                have f33 := getq (show a9.tmps.getD 91 undef = undef from haf ⟨33, .data⟩ (by simp) rfl)
                refine skip_goodIn _ (wanted_none rfl) ?_
                clear haf ho hsz2
                intro K hK
                simp only [List.getElem_toArray, List.getElem_cons_succ, List.getElem_cons_zero] at hK ⊢
                go_simp
                exact hK _ _ ⟨Below.refl _ _, hW, rfl⟩
              | n + 35, ho, haf => simp at ho
            · intro aa w9 hW hdf hsz hout hall
              have hat : aa.tmps = #[v0, u, Value.pointer (some { block := N, off := 0 }), undef, Value.pointer (some { block := N + 1, off := 0 }), Value.slice ba bs.length bc, Value.pointer (some { block := A, off := 0 }), Value.int IntKind.i64 (nn : Int), Value.bool true, Value.slice ca cs.length cc, Value.slice qa wm.length qc, Value.int IntKind.i64 (mm : Int), Value.bool true, Value.func (Fn.func 47) #[] #[Value.pointer (some { block := M, off := 0 })], Value.pointer (some { block := P, off := 0 }), .int .i64 (x1 : Int), Value.pointer (some { block := Bx, off := 0 }), undef, undef, undef, undef, undef, undef, undef, undef, u25, u26, u27, u28, u29, Value.tuple #[Value.slice ba bs.length bc, Value.slice (some ⟨g5, go, none⟩) wn.length pc, Value.int IntKind.i64 (nn : Int), Value.bool true], Value.slice (some ⟨lb, lo, none⟩) L.length vc, u, Value.tuple #[Value.slice ba bs.length bc, Value.slice (some ⟨g5, go, none⟩) wn.length pc, Value.int IntKind.i64 (nn : Int), Value.bool true], Value.slice ba bs.length bc, Value.slice (some ⟨g5, go, none⟩) wn.length pc, Value.int IntKind.i64 (nn : Int), Value.bool true, Value.tuple #[Value.slice ca cs.length cc, Value.slice qa wm.length qc, Value.int IntKind.i64 (mm : Int), Value.bool true], Value.slice (some ⟨lb, lo, none⟩) L.length vc, Value.tuple #[Value.slice ca cs.length cc, Value.slice qa wm.length qc, Value.int IntKind.i64 (mm : Int), Value.bool true], Value.slice ca cs.length cc, Value.slice qa wm.length qc, Value.int IntKind.i64 (mm : Int), Value.bool true, Value.bool true, Value.bool false, Value.bool false, Value.bool true, Value.bool false, Value.bool false, Value.slice ba bs.length bc, Value.func (Fn.func 47) #[] #[Value.pointer (some { block := M, off := 0 })], Value.func (Fn.func 47) #[] #[Value.pointer (some { block := M, off := 0 })], Value.bool false, Value.func (Fn.func 47) #[] #[Value.pointer (some { block := M, off := 0 })], .int .i64 (x1 : Int), .agg (frv ⟨k, ⟨rl, rk, rkey, rval⟩, ⟨pl, pk, pp, pn, pkey⟩, ⟨ec, eb, ef, es⟩⟩).toArray, .int .i64 (pre.length : Int), .slice (some ⟨lb, lo, none⟩) L.length vc, .int .i64 (L.length : Int), .bool false, .bool false, .int .i64 (x1 : Int), .slice (some ⟨g5, go, none⟩) wn.length pc, .int .i64 (pre.length : Int), .pointer (some ⟨g5, go + pre.length, none⟩), .int .i64 (x1 : Int), .bool false, .bool false, .bool false, .agg #[.int .i64 k, .int .u64 (rl : Int), .int .i64 rk, .string rkey, .string rval, .int .u64 (pl : Int), .int .i64 pk, .int .i64 pp, .int .i64 pn, .string pkey, .int .i64 ec, .int .i64 eb, .int .i64 ef, .int .u32 (es : Int)], .pointer (some ⟨Bx, 0, none⟩), .int .i64 k, .slice (some ⟨lb, lo, none⟩) L.length vc, .int .i64 (pre.length : Int), .pointer (some ⟨lb, lo + pre.length * 4, none⟩), .agg #[.int .i64 x.k, .int .i64 x.y, .int .i64 x.v, .int .i64 x.n], .int .i64 (pre.length : Int), .int .i64 ((pre.length : Int) + 1), .int .u64 ((pre.length : Int) + 1), .agg #[.int .u64 ((pre.length : Int) + 1), .int .i64 rqk, .string rqy, .string rqv], .agg #[.int .i64 k, .int .u64 ((pre.length : Int) + 1), .int .i64 rqk, .string rqy, .string rqv, .int .u64 0, .int .i64 0, .int .i64 0, .int .i64 0, .string ⟨#[]⟩, .int .i64 0, .int .i64 0, .int .i64 0, .int .u32 0], .bool true, .bool true, .bool true, undef, undef, undef, undef, undef, undef, .bool true, undef, undef, undef, undef, undef, undef, undef, undef, undef, undef, undef, undef, undef, undef, undef, undef, undef, undef, undef, undef, undef, undef, undef, undef, undef, undef, undef, undef, undef, undef, undef, undef, undef, undef, undef, undef, undef, undef, undef, undef, undef, undef, undef, undef, undef, undef, undef, undef, undef, undef, undef, undef, undef, undef, undef, undef, undef, undef, undef, undef, undef, undef, undef, undef, undef, undef, undef, undef, undef, undef, undef, undef, undef, undef, undef, undef, undef, undef, undef, undef, undef, undef, undef, undef, undef, undef, undef, undef, undef, undef, undef, undef, undef, undef, undef, undef, undef, undef, undef, undef, undef, undef, undef, undef, undef, undef, undef] := by
                refine (tmps_of (lo := 58) (vs := [.int .i64 (pre.length : Int), .slice (some ⟨lb, lo, none⟩) L.length vc, .int .i64 (L.length : Int), .bool false, .bool false, .int .i64 (x1 : Int), .slice (some ⟨g5, go, none⟩) wn.length pc, .int .i64 (pre.length : Int), .pointer (some ⟨g5, go + pre.length, none⟩), .int .i64 (x1 : Int), .bool false, .bool false, .bool false, .agg #[.int .i64 k, .int .u64 (rl : Int), .int .i64 rk, .string rkey, .string rval, .int .u64 (pl : Int), .int .i64 pk, .int .i64 pp, .int .i64 pn, .string pkey, .int .i64 ec, .int .i64 eb, .int .i64 ef, .int .u32 (es : Int)], .pointer (some ⟨Bx, 0, none⟩), .int .i64 k, .slice (some ⟨lb, lo, none⟩) L.length vc, .int .i64 (pre.length : Int), .pointer (some ⟨lb, lo + pre.length * 4, none⟩), .agg #[.int .i64 x.k, .int .i64 x.y, .int .i64 x.v, .int .i64 x.n], .int .i64 (pre.length : Int), .int .i64 ((pre.length : Int) + 1), .int .u64 ((pre.length : Int) + 1), .agg #[.int .u64 ((pre.length : Int) + 1), .int .i64 rqk, .string rqy, .string rqv], .agg #[.int .i64 k, .int .u64 ((pre.length : Int) + 1), .int .i64 rqk, .string rqy, .string rqv, .int .u64 0, .int .i64 0, .int .i64 0, .int .i64 0, .string ⟨#[]⟩, .int .i64 0, .int .i64 0, .int .i64 0, .int .u32 0], .bool true, .bool true, .bool true, undef, undef, undef, undef, undef, undef, .bool true]) hsz (by kernel_rfl) (Nat.le_of_ble_eq_true (by kernel_rfl)) hout (fun i hi => ?_)).trans ?_
                · match i, hi with
                  | 0, _ => exact hall 0 (by decide)
                  | 1, _ => exact hall 1 (by decide)
                  | 2, _ => exact hall 2 (by decide)
                  | 3, _ => exact hall 3 (by decide)
                  | 4, _ => exact hall 4 (by decide)
                  | 5, _ => exact hall 5 (by decide)
                  | 6, _ => exact hall 6 (by decide)
                  | 7, _ => exact hall 7 (by decide)
                  | 8, _ => exact hall 8 (by decide)
                  | 9, _ => exact hall 9 (by decide)
                  | 10, _ => exact hall 10 (by decide)
                  | 11, _ => exact hall 11 (by decide)
                  | 12, _ => exact hall 12 (by decide)
                  | 13, _ => exact hall 13 (by decide)
                  | 14, _ => exact hall 14 (by decide)
                  | 15, _ => exact hall 15 (by decide)
                  | 16, _ => exact hall 16 (by decide)
                  | 17, _ => exact hall 17 (by decide)
                  | 18, _ => exact hall 18 (by decide)
                  | 19, _ => exact hall 19 (by decide)
                  | 20, _ => exact hall 20 (by decide)
                  | 21, _ => exact hall 21 (by decide)
                  | 22, _ => exact hall 22 (by decide)
                  | 23, _ => exact hall 23 (by decide)
                  | 24, _ => exact hall 24 (by decide)
                  | 25, _ => exact hall 25 (by decide)
                  | 26, _ => exact hall 26 (by decide)
                  | 27, _ => exact hall 27 (by decide)
                  | 28, _ => exact hall 28 (by decide)
                  | 29, _ => exact hall 29 (by decide)
                  | 30, _ => exact hall 30 (by decide)
                  | 31, _ => exact hall 31 (by decide)
                  | 32, _ => exact hall 32 (by decide)
                  | 33, _ => exact hall 33 (by decide)
                  | 34, _ => exact hall 34 (by decide)
                  | n + 35, h => exact absurd h (by simp)
                · rfl
              obtain ⟨tt, dd⟩ := aa
              simp only at hat hdf
              subst hat hdf
              clear hsz hout hall
              have brw := boxed_below HBRU.out hN1U hW
              have cr := brw.cell
              have fr := brw.frozen
              gi_wp2
              refine ⟨((ko_below hW).trans (KeepsOthers.setCell _ _ _)).from _, ?_⟩
              exact fun h => HNO.out (by rw [← HMP.out]; exact h)
          | false =>
            obtain ⟨hb1, hb2⟩ : (⟨rl, rk, rkey, rval⟩ : Rec) = ⟨pre.length + 1, rqk, rqy, rqv⟩ ∧ (⟨pl, pk, pp, pn, pkey⟩ : Ptr) = zp := by
              have := hbf.1 rfl
              injection this with _ e1 e2 _
              exact ⟨e1, e2⟩
            have hrk : rk = rqk := congrArg Rec.kind hb1
            by_cases hk : k = rk
            · have HYES : Hid (pre.map (fun x => lcP x.1) ++ [(x1, ⟨k, ⟨rl, rk, rkey, rval⟩, ⟨pl, pk, pp, pn, pkey⟩, ⟨ec, eb, ef, es⟩⟩)] <+: wn.map lcP) := hd (pre_snoc_yes HPRE.out (by
                rw [HPL.out, HLC.out, hbf.1 rfl, hk, hrk]))
              have HW1 : Hid ((pre.length : Int) + 1 = (((pre ++ [(⟨(x1, x2, ⟨k, ⟨rl, rk, rkey, rval⟩, ⟨pl, pk, pp, pn, pkey⟩, ⟨ec, eb, ef, es⟩⟩), hx⟩ : PL bs.length)]).length : Nat) : Int)) := hd (by
                rw [List.length_append, List.length_singleton]; omega)
              clear hbf hb1 hb2 hrk
              have hk2 : (k != rk) = false := by rw [hk]; simp
              clear hk
              gi_wp2
              refine region_skipIn (fun i9 v9 _ => match i9 with
                | 0 => v9 = .int .i64 (pre.length : Int)
                | 1 => v9 = .slice (some ⟨lb, lo, none⟩) L.length vc
                | 2 => v9 = .int .i64 (L.length : Int)
                | 3 => v9 = .bool false
                | 4 => v9 = .bool false
                | 5 => v9 = .int .i64 (x1 : Int)
                | 6 => v9 = .slice (some ⟨g5, go, none⟩) wn.length pc
                | 7 => v9 = .int .i64 (pre.length : Int)
                | 8 => v9 = .pointer (some ⟨g5, go + pre.length, none⟩)
                | 9 => v9 = .int .i64 (x1 : Int)
                | 10 => v9 = .bool false
                | 11 => v9 = .bool false
                | 12 => v9 = .bool false
                | 13 => v9 = .agg #[.int .i64 k, .int .u64 (rl : Int), .int .i64 rk, .string rkey, .string rval, .int .u64 (pl : Int), .int .i64 pk, .int .i64 pp, .int .i64 pn, .string pkey, .int .i64 ec, .int .i64 eb, .int .i64 ef, .int .u32 (es : Int)]
                | 14 => v9 = .pointer (some ⟨Bx, 0, none⟩)
                | 15 => v9 = .int .i64 k
                | 16 => v9 = .slice (some ⟨lb, lo, none⟩) L.length vc
                | 17 => v9 = .int .i64 (pre.length : Int)
                | 18 => v9 = .pointer (some ⟨lb, lo + pre.length * 4, none⟩)
                | 19 => v9 = .agg #[.int .i64 x.k, .int .i64 x.y, .int .i64 x.v, .int .i64 x.n]
                | 20 => v9 = .int .i64 (pre.length : Int)
                | 21 => v9 = .int .i64 ((pre.length : Int) + 1)
                | 22 => v9 = .int .u64 ((pre.length : Int) + 1)
                | 23 => v9 = .agg #[.int .u64 ((pre.length : Int) + 1), .int .i64 rqk, .string rqy, .string rqv]
                | 24 => v9 = .agg #[.int .i64 k, .int .u64 ((pre.length : Int) + 1), .int .i64 rqk, .string rqy, .string rqv, .int .u64 0, .int .i64 0, .int .i64 0, .int .i64 0, .string ⟨#[]⟩, .int .i64 0, .int .i64 0, .int .i64 0, .int .u32 0]
                | 25 => v9 = .bool false
                | 26 => v9 = .bool false
                | 27 => v9 = .bool false
                | 28 => v9 = .pointer (some ⟨Bx, 0, none⟩)
                | 29 => v9 = .int .i64 k
                | 30 => v9 = .pointer (some ⟨Bx, 1, none⟩)
                | 31 => v9 = .pointer (some ⟨Bx, 2, none⟩)
                | 32 => v9 = .int .i64 rk
                | 33 => v9 = .bool false
                | _ => v9 = .bool false) (fun w => Below U.heap.size U w) (fun _ => trivial) hmx (by kernel_rfl) (by kernel_rfl) ((Below.refl _ _).drew) ?_ ?_ ?_
              · intro i9 v9 w8 w9 _ _ hb hG
                match i9, hG with
                | 0, h => exact h
                | 1, h => exact h
                | 2, h => exact h
                | 3, h => exact h
                | 4, h => exact h
                | 5, h => exact h
                | 6, h => exact h
                | 7, h => exact h
                | 8, h => exact h
                | 9, h => exact h
                | 10, h => exact h
                | 11, h => exact h
                | 12, h => exact h
                | 13, h => exact h
                | 14, h => exact h
                | 15, h => exact h
                | 16, h => exact h
                | 17, h => exact h
                | 18, h => exact h
                | 19, h => exact h
                | 20, h => exact h
                | 21, h => exact h
                | 22, h => exact h
                | 23, h => exact h
                | 24, h => exact h
                | 25, h => exact h
                | 26, h => exact h
                | 27, h => exact h
                | 28, h => exact h
                | 29, h => exact h
                | 30, h => exact h
                | 31, h => exact h
                | 32, h => exact h
                | 33, h => exact h
                | n + 34, h => exact h
              · intro i9 o9 ho a9 w9 hW hdf hsz hout haf
                have ee2 := getq (show a9.tmps.getD 2 undef = Value.pointer (some { block := N, off := 0 }) from hout 2 (notDst_spec (by kernel_rfl)))
                have ee6 := getq (show a9.tmps.getD 6 undef = Value.pointer (some { block := A, off := 0 }) from hout 6 (notDst_spec (by kernel_rfl)))
                have ee14 := getq (show a9.tmps.getD 14 undef = Value.pointer (some { block := P, off := 0 }) from hout 14 (notDst_spec (by kernel_rfl)))
                have ee15 := getq (show a9.tmps.getD 15 undef = .int .i64 (x1 : Int) from hout 15 (notDst_spec (by kernel_rfl)))
                have ee16 := getq (show a9.tmps.getD 16 undef = Value.pointer (some { block := Bx, off := 0 }) from hout 16 (notDst_spec (by kernel_rfl)))
                have hsz2 : a9.tmps.size = 200 := hsz
                clear hout hsz hdf
                match i9, ho, haf with
                | 0, ho, haf =>
                  obtain rfl := Option.some.inj ho
                  refine skip_goodIn _ (wanted_none rfl) ?_
                  clear haf ho hsz2
                  intro K hK
                  simp only [List.getElem_toArray, List.getElem_cons_zero] at hK ⊢
                  have z0 := (hW.cell (p := ⟨P, 0, none⟩) hPU).trans cn
                  go_simp
                  exact hK _ _ ⟨Below.refl _ _, hW, rfl⟩
                | 1, ho, haf =>
                  obtain rfl := Option.some.inj ho
                  refine skip_goodIn _ (wanted_none rfl) ?_
                  clear haf ho hsz2
                  intro K hK
                  simp only [List.getElem_toArray, List.getElem_cons_succ, List.getElem_cons_zero] at hK ⊢
                  have z0 := (hW.cell (p := ⟨N, 0, none⟩) hNU).trans cl
                  go_simp
                  exact hK _ _ ⟨Below.refl _ _, hW, rfl⟩
                | 2, ho, haf =>
                  obtain rfl := Option.some.inj ho
                  have f1 := getq (show a9.tmps.getD 59 undef = .slice (some ⟨lb, lo, none⟩) L.length vc from haf ⟨1, .data⟩ (by simp) rfl)
                  refine skip_goodIn _ (wanted_none rfl) ?_
                  clear haf ho hsz2
                  intro K hK
                  simp only [List.getElem_toArray, List.getElem_cons_succ, List.getElem_cons_zero] at hK ⊢
                  go_simp
                  exact hK _ _ ⟨Below.refl _ _, hW, rfl⟩
                | 3, ho, haf =>
                  obtain rfl := Option.some.inj ho
                  have f0 := getq (show a9.tmps.getD 58 undef = .int .i64 (pre.length : Int) from haf ⟨0, .data⟩ (by simp) rfl)
                  have f2 := getq (show a9.tmps.getD 60 undef = .int .i64 (L.length : Int) from haf ⟨2, .data⟩ (by simp) rfl)
                  refine skip_goodIn _ (wanted_none rfl) ?_
                  clear haf ho hsz2
                  intro K hK
                  simp only [List.getElem_toArray, List.getElem_cons_succ, List.getElem_cons_zero] at hK ⊢
                  go_simp
                  exact hK _ _ ⟨Below.refl _ _, hW, (by first | rfl | (simp only [Value.bool.injEq, decide_eq_false_iff_not]; omega) | (simp only [Value.bool.injEq, decide_eq_true_eq]; omega))⟩
                | 4, ho, haf =>
                  obtain rfl := Option.some.inj ho
                  have f3 := getq (show a9.tmps.getD 61 undef = .bool false from haf ⟨3, .data⟩ (by simp) rfl)
                  refine skip_goodIn _ (wanted_none rfl) ?_
                  clear haf ho hsz2
                  intro K hK
                  simp only [List.getElem_toArray, List.getElem_cons_succ, List.getElem_cons_zero] at hK ⊢
                  go_simp
                  exact hK _ _ ⟨Below.refl _ _, hW, rfl⟩
                | 5, ho, haf =>
                  obtain rfl := Option.some.inj ho
                  have gg : a9.tmps.getD 62 undef = .bool false := haf ⟨4, .guard⟩ (by simp) rfl
                  refine skip_goodIn _ (wanted_some rfl (yielded_of (d := 62) rfl (by omega) gg)) ?_
                  clear haf ho hsz2 gg
                  intro K hK
                  simp only [List.getElem_toArray, List.getElem_cons_succ, List.getElem_cons_zero] at hK ⊢
                  go_simp
                  exact hK _ _ ⟨Below.refl _ _, hW, rfl⟩
                | 6, ho, haf =>
                  obtain rfl := Option.some.inj ho
                  have gg : a9.tmps.getD 62 undef = .bool false := haf ⟨4, .guard⟩ (by simp) rfl
                  refine skip_goodIn _ (wanted_some rfl (yielded_of (d := 62) rfl (by omega) gg)) ?_
                  clear haf ho hsz2 gg
                  intro K hK
                  simp only [List.getElem_toArray, List.getElem_cons_succ, List.getElem_cons_zero] at hK ⊢
                  have z0 := (hW.cell (p := ⟨A, 0, none⟩) hAU).trans ca0
                  go_simp
                  exact hK _ _ ⟨Below.refl _ _, hW, rfl⟩
                | 7, ho, haf =>
                  obtain rfl := Option.some.inj ho
                  have gg : a9.tmps.getD 62 undef = .bool false := haf ⟨4, .guard⟩ (by simp) rfl
                  refine skip_goodIn _ (wanted_some rfl (yielded_of (d := 62) rfl (by omega) gg)) ?_
                  clear haf ho hsz2 gg
                  intro K hK
                  simp only [List.getElem_toArray, List.getElem_cons_succ, List.getElem_cons_zero] at hK ⊢
                  have z0 := (hW.cell (p := ⟨P, 0, none⟩) hPU).trans cn
                  go_simp
                  exact hK _ _ ⟨Below.refl _ _, hW, rfl⟩
                | 8, ho, haf =>
                  obtain rfl := Option.some.inj ho
                  have gg : a9.tmps.getD 62 undef = .bool false := haf ⟨4, .guard⟩ (by simp) rfl
                  have f6 := getq (show a9.tmps.getD 64 undef = .slice (some ⟨g5, go, none⟩) wn.length pc from haf ⟨6, .data⟩ (by simp) rfl)
                  have f7 := getq (show a9.tmps.getD 65 undef = .int .i64 (pre.length : Int) from haf ⟨7, .data⟩ (by simp) rfl)
                  refine skip_goodIn _ (wanted_some rfl (yielded_of (d := 62) rfl (by omega) gg)) ?_
                  clear haf ho hsz2 gg
                  intro K hK
                  simp only [List.getElem_toArray, List.getElem_cons_succ, List.getElem_cons_zero] at hK ⊢
                  go_simp
                  exact hK _ _ ⟨Below.refl _ _, hW, rfl⟩
                | 9, ho, haf =>
                  obtain rfl := Option.some.inj ho
                  have gg : a9.tmps.getD 62 undef = .bool false := haf ⟨4, .guard⟩ (by simp) rfl
                  have f8 := getq (show a9.tmps.getD 66 undef = .pointer (some ⟨g5, go + pre.length, none⟩) from haf ⟨8, .data⟩ (by simp) rfl)
                  refine skip_goodIn _ (wanted_some rfl (yielded_of (d := 62) rfl (by omega) gg)) ?_
                  clear haf ho hsz2 gg
                  intro K hK
                  simp only [List.getElem_toArray, List.getElem_cons_succ, List.getElem_cons_zero] at hK ⊢
                  have z0 := (hW.cell (p := ⟨g5, go + pre.length, none⟩) hgU).trans cp
                  go_simp
                  exact hK _ _ ⟨Below.refl _ _, hW, rfl⟩
                | 10, ho, haf =>
                  obtain rfl := Option.some.inj ho
                  have gg : a9.tmps.getD 62 undef = .bool false := haf ⟨4, .guard⟩ (by simp) rfl
                  have f5 := getq (show a9.tmps.getD 63 undef = .int .i64 (x1 : Int) from haf ⟨5, .data⟩ (by simp) rfl)
                  have f9 := getq (show a9.tmps.getD 67 undef = .int .i64 (x1 : Int) from haf ⟨9, .data⟩ (by simp) rfl)
                  refine skip_goodIn _ (wanted_some rfl (yielded_of (d := 62) rfl (by omega) gg)) ?_
                  clear haf ho hsz2 gg
                  intro K hK
                  simp only [List.getElem_toArray, List.getElem_cons_succ, List.getElem_cons_zero] at hK ⊢
                  go_simp
                  exact hK _ _ ⟨Below.refl _ _, hW, rfl⟩
                | 11, ho, haf =>
                  obtain rfl := Option.some.inj ho
                  have f4 := getq (show a9.tmps.getD 62 undef = .bool false from haf ⟨4, .data⟩ (by simp) rfl)
                  have f10 := getq (show a9.tmps.getD 68 undef = .bool false from haf ⟨10, .data⟩ (by simp) rfl)
                  refine skip_goodIn _ (wanted_none rfl) ?_
                  clear haf ho hsz2
                  intro K hK
                  simp only [List.getElem_toArray, List.getElem_cons_succ, List.getElem_cons_zero] at hK ⊢
                  go_simp
                  exact hK _ _ ⟨Below.refl _ _, hW, rfl⟩
                | 12, ho, haf =>
                  obtain rfl := Option.some.inj ho
                  have f11 := getq (show a9.tmps.getD 69 undef = .bool false from haf ⟨11, .data⟩ (by simp) rfl)
                  refine skip_goodIn _ (wanted_none rfl) ?_
                  clear haf ho hsz2
                  intro K hK
                  simp only [List.getElem_toArray, List.getElem_cons_succ, List.getElem_cons_zero] at hK ⊢
                  go_simp
                  exact hK _ _ ⟨Below.refl _ _, hW, rfl⟩
                | 13, ho, haf =>
                  obtain rfl := Option.some.inj ho
                  have gg : a9.tmps.getD 70 undef = .bool false := haf ⟨12, .guard⟩ (by simp) rfl
                  refine skip_goodIn _ (wanted_some rfl (yielded_of (d := 70) rfl (by omega) gg)) ?_
                  clear haf ho hsz2 gg
                  intro K hK
                  simp only [List.getElem_toArray, List.getElem_cons_succ, List.getElem_cons_zero] at hK ⊢
                  have z0 := (hW.cell (p := ⟨Bx, 0, none⟩) hBxU).trans k0
                  have z1 := (hW.cell (p := ⟨Bx, 1, none⟩) hBxU).trans k1
                  have z2 := (hW.cell (p := ⟨Bx, 2, none⟩) hBxU).trans k2
                  have z3 := (hW.cell (p := ⟨Bx, 3, none⟩) hBxU).trans k3
                  have z4 := (hW.cell (p := ⟨Bx, 4, none⟩) hBxU).trans k4
                  have z5 := (hW.cell (p := ⟨Bx, 5, none⟩) hBxU).trans k5
                  have z6 := (hW.cell (p := ⟨Bx, 6, none⟩) hBxU).trans k6
                  have z7 := (hW.cell (p := ⟨Bx, 7, none⟩) hBxU).trans k7
                  have z8 := (hW.cell (p := ⟨Bx, 8, none⟩) hBxU).trans k8
                  have z9 := (hW.cell (p := ⟨Bx, 9, none⟩) hBxU).trans k9
                  have z10 := (hW.cell (p := ⟨Bx, 10, none⟩) hBxU).trans k10
                  have z11 := (hW.cell (p := ⟨Bx, 11, none⟩) hBxU).trans k11
                  have z12 := (hW.cell (p := ⟨Bx, 12, none⟩) hBxU).trans k12
                  have z13 := (hW.cell (p := ⟨Bx, 13, none⟩) hBxU).trans k13
                  go_simp
                  exact hK _ _ ⟨Below.refl _ _, hW, rfl⟩
                | 14, ho, haf =>
                  obtain rfl := Option.some.inj ho
                  have gg : a9.tmps.getD 70 undef = .bool false := haf ⟨12, .guard⟩ (by simp) rfl
                  refine skip_goodIn _ (wanted_some rfl (yielded_of (d := 70) rfl (by omega) gg)) ?_
                  clear haf ho hsz2 gg
                  intro K hK
                  simp only [List.getElem_toArray, List.getElem_cons_succ, List.getElem_cons_zero] at hK ⊢
                  go_simp
                  exact hK _ _ ⟨Below.refl _ _, hW, rfl⟩
                | 15, ho, haf =>
                  obtain rfl := Option.some.inj ho
                  have gg : a9.tmps.getD 70 undef = .bool false := haf ⟨12, .guard⟩ (by simp) rfl
                  have f14 := getq (show a9.tmps.getD 72 undef = .pointer (some ⟨Bx, 0, none⟩) from haf ⟨14, .data⟩ (by simp) rfl)
                  refine skip_goodIn _ (wanted_some rfl (yielded_of (d := 70) rfl (by omega) gg)) ?_
                  clear haf ho hsz2 gg
                  intro K hK
                  simp only [List.getElem_toArray, List.getElem_cons_succ, List.getElem_cons_zero] at hK ⊢
                  have z0 := (hW.cell (p := ⟨Bx, 0, none⟩) hBxU).trans k0
                  go_simp
                  exact hK _ _ ⟨Below.refl _ _, hW, rfl⟩
                | 16, ho, haf =>
                  obtain rfl := Option.some.inj ho
                  have gg : a9.tmps.getD 70 undef = .bool false := haf ⟨12, .guard⟩ (by simp) rfl
                  refine skip_goodIn _ (wanted_some rfl (yielded_of (d := 70) rfl (by omega) gg)) ?_
                  clear haf ho hsz2 gg
                  intro K hK
                  simp only [List.getElem_toArray, List.getElem_cons_succ, List.getElem_cons_zero] at hK ⊢
                  have z0 := (hW.cell (p := ⟨N, 0, none⟩) hNU).trans cl
                  go_simp
                  exact hK _ _ ⟨Below.refl _ _, hW, rfl⟩
                | 17, ho, haf =>
                  obtain rfl := Option.some.inj ho
                  have gg : a9.tmps.getD 70 undef = .bool false := haf ⟨12, .guard⟩ (by simp) rfl
                  refine skip_goodIn _ (wanted_some rfl (yielded_of (d := 70) rfl (by omega) gg)) ?_
                  clear haf ho hsz2 gg
                  intro K hK
                  simp only [List.getElem_toArray, List.getElem_cons_succ, List.getElem_cons_zero] at hK ⊢
                  have z0 := (hW.cell (p := ⟨P, 0, none⟩) hPU).trans cn
                  go_simp
                  exact hK _ _ ⟨Below.refl _ _, hW, rfl⟩
                | 18, ho, haf =>
                  obtain rfl := Option.some.inj ho
                  have gg : a9.tmps.getD 70 undef = .bool false := haf ⟨12, .guard⟩ (by simp) rfl
                  have f16 := getq (show a9.tmps.getD 74 undef = .slice (some ⟨lb, lo, none⟩) L.length vc from haf ⟨16, .data⟩ (by simp) rfl)
                  have f17 := getq (show a9.tmps.getD 75 undef = .int .i64 (pre.length : Int) from haf ⟨17, .data⟩ (by simp) rfl)
                  refine skip_goodIn _ (wanted_some rfl (yielded_of (d := 70) rfl (by omega) gg)) ?_
                  clear haf ho hsz2 gg
                  intro K hK
                  simp only [List.getElem_toArray, List.getElem_cons_succ, List.getElem_cons_zero] at hK ⊢
                  go_simp
                  exact hK _ _ ⟨Below.refl _ _, hW, rfl⟩
                | 19, ho, haf =>
                  obtain rfl := Option.some.inj ho
                  have gg : a9.tmps.getD 70 undef = .bool false := haf ⟨12, .guard⟩ (by simp) rfl
                  have f18 := getq (show a9.tmps.getD 76 undef = .pointer (some ⟨lb, lo + pre.length * 4, none⟩) from haf ⟨18, .data⟩ (by simp) rfl)
                  refine skip_goodIn _ (wanted_some rfl (yielded_of (d := 70) rfl (by omega) gg)) ?_
                  clear haf ho hsz2 gg
                  intro K hK
                  simp only [List.getElem_toArray, List.getElem_cons_succ, List.getElem_cons_zero] at hK ⊢
                  have z0 := (hW.cell (p := ⟨lb, lo + pre.length * 4, none⟩) hlU).trans m0
                  have z1 := (hW.cell (p := ⟨lb, lo + pre.length * 4 + 1, none⟩) hlU).trans m1
                  have z2 := (hW.cell (p := ⟨lb, lo + pre.length * 4 + 2, none⟩) hlU).trans m2
                  have z3 := (hW.cell (p := ⟨lb, lo + pre.length * 4 + 3, none⟩) hlU).trans m3
                  go_simp
                  exact hK _ _ ⟨Below.refl _ _, hW, rfl⟩
                | 20, ho, haf =>
                  obtain rfl := Option.some.inj ho
                  have gg : a9.tmps.getD 70 undef = .bool false := haf ⟨12, .guard⟩ (by simp) rfl
                  refine skip_goodIn _ (wanted_some rfl (yielded_of (d := 70) rfl (by omega) gg)) ?_
                  clear haf ho hsz2 gg
                  intro K hK
                  simp only [List.getElem_toArray, List.getElem_cons_succ, List.getElem_cons_zero] at hK ⊢
                  have z0 := (hW.cell (p := ⟨P, 0, none⟩) hPU).trans cn
                  go_simp
                  exact hK _ _ ⟨Below.refl _ _, hW, rfl⟩
                | 21, ho, haf =>
                  obtain rfl := Option.some.inj ho
                  have gg : a9.tmps.getD 70 undef = .bool false := haf ⟨12, .guard⟩ (by simp) rfl
                  have f20 := getq (show a9.tmps.getD 78 undef = .int .i64 (pre.length : Int) from haf ⟨20, .data⟩ (by simp) rfl)
                  refine skip_goodIn _ (wanted_some rfl (yielded_of (d := 70) rfl (by omega) gg)) ?_
                  clear haf ho hsz2 gg
                  intro K hK
                  simp only [List.getElem_toArray, List.getElem_cons_succ, List.getElem_cons_zero] at hK ⊢
                  have zz := hw1
                  go_simp
                  exact hK _ _ ⟨Below.refl _ _, hW, rfl⟩
                | 22, ho, haf =>
                  obtain rfl := Option.some.inj ho
                  have gg : a9.tmps.getD 70 undef = .bool false := haf ⟨12, .guard⟩ (by simp) rfl
                  have f21 := getq (show a9.tmps.getD 79 undef = .int .i64 ((pre.length : Int) + 1) from haf ⟨21, .data⟩ (by simp) rfl)
                  refine skip_goodIn _ (wanted_some rfl (yielded_of (d := 70) rfl (by omega) gg)) ?_
                  clear haf ho hsz2 gg
                  intro K hK
                  simp only [List.getElem_toArray, List.getElem_cons_succ, List.getElem_cons_zero] at hK ⊢
                  have zz := hw2
                  go_simp
                  exact hK _ _ ⟨Below.refl _ _, hW, rfl⟩
                | 23, ho, haf =>
                  obtain rfl := Option.some.inj ho
                  have gg : a9.tmps.getD 70 undef = .bool false := haf ⟨12, .guard⟩ (by simp) rfl
                  have f19 := getq (show a9.tmps.getD 77 undef = .agg #[.int .i64 x.k, .int .i64 x.y, .int .i64 x.v, .int .i64 x.n] from haf ⟨19, .data⟩ (by simp) rfl)
                  have f22 := getq (show a9.tmps.getD 80 undef = .int .u64 ((pre.length : Int) + 1) from haf ⟨22, .data⟩ (by simp) rfl)
                  refine skip_goodIn _ (wanted_some rfl (yielded_of (d := 70) rfl (by omega) gg)) ?_
                  clear haf ho hsz2 gg
                  intro K hK
                  simp only [List.getElem_toArray, List.getElem_cons_succ, List.getElem_cons_zero] at hK ⊢
                  go_simp
                  refine ⟨trivial, CallsIn.mono (CallsIn.inRound lk (callsIn_wide.2 (HREC.out w9))) ?_⟩
                  rintro e9 w8 ⟨rfl, hb9⟩
                  exact hK _ _ ⟨hb9, hW.trans (hb9.mono hW.size), rfl⟩
                | 24, ho, haf =>
                  obtain rfl := Option.some.inj ho
                  have gg : a9.tmps.getD 70 undef = .bool false := haf ⟨12, .guard⟩ (by simp) rfl
                  have f15 := getq (show a9.tmps.getD 73 undef = .int .i64 k from haf ⟨15, .data⟩ (by simp) rfl)
                  have f23 := getq (show a9.tmps.getD 81 undef = .agg #[.int .u64 ((pre.length : Int) + 1), .int .i64 rqk, .string rqy, .string rqv] from haf ⟨23, .data⟩ (by simp) rfl)
                  refine skip_goodIn _ (wanted_some rfl (yielded_of (d := 70) rfl (by omega) gg)) ?_
                  clear haf ho hsz2 gg
                  intro K hK
                  simp only [List.getElem_toArray, List.getElem_cons_succ, List.getElem_cons_zero] at hK ⊢
                  go_simp
                  exact hK _ _ ⟨Below.refl _ _, hW, rfl⟩
                | 25, ho, haf =>
                  obtain rfl := Option.some.inj ho
                  have gg : a9.tmps.getD 70 undef = .bool false := haf ⟨12, .guard⟩ (by simp) rfl
                  have f13 := getq (show a9.tmps.getD 71 undef = .agg #[.int .i64 k, .int .u64 (rl : Int), .int .i64 rk, .string rkey, .string rval, .int .u64 (pl : Int), .int .i64 pk, .int .i64 pp, .int .i64 pn, .string pkey, .int .i64 ec, .int .i64 eb, .int .i64 ef, .int .u32 (es : Int)] from haf ⟨13, .data⟩ (by simp) rfl)
                  have f24 := getq (show a9.tmps.getD 82 undef = .agg #[.int .i64 k, .int .u64 ((pre.length : Int) + 1), .int .i64 rqk, .string rqy, .string rqv, .int .u64 0, .int .i64 0, .int .i64 0, .int .i64 0, .string ⟨#[]⟩, .int .i64 0, .int .i64 0, .int .i64 0, .int .u32 0] from haf ⟨24, .data⟩ (by simp) rfl)
                  refine skip_goodIn _ (wanted_some rfl (yielded_of (d := 70) rfl (by omega) gg)) ?_
                  clear haf ho hsz2 gg
                  intro K hK
                  simp only [List.getElem_toArray, List.getElem_cons_succ, List.getElem_cons_zero] at hK ⊢
                  go_simp
                  exact hK _ _ ⟨Below.refl _ _, hW, rfl⟩
                | 26, ho, haf =>
                  obtain rfl := Option.some.inj ho
                  have f12 := getq (show a9.tmps.getD 70 undef = .bool false from haf ⟨12, .data⟩ (by simp) rfl)
                  have f25 := getq (show a9.tmps.getD 83 undef = .bool false from haf ⟨25, .data⟩ (by simp) rfl)
                  refine skip_goodIn _ (wanted_none rfl) ?_
                  clear haf ho hsz2
                  intro K hK
                  simp only [List.getElem_toArray, List.getElem_cons_succ, List.getElem_cons_zero] at hK ⊢
                  go_simp
                  exact hK _ _ ⟨Below.refl _ _, hW, rfl⟩
                | 27, ho, haf =>
                  obtain rfl := Option.some.inj ho
                  have f26 := getq (show a9.tmps.getD 84 undef = .bool false from haf ⟨26, .data⟩ (by simp) rfl)
                  refine skip_goodIn _ (wanted_none rfl) ?_
                  clear haf ho hsz2
                  intro K hK
                  simp only [List.getElem_toArray, List.getElem_cons_succ, List.getElem_cons_zero] at hK ⊢
                  go_simp
                  exact hK _ _ ⟨Below.refl _ _, hW, rfl⟩
                | 28, ho, haf =>
                  obtain rfl := Option.some.inj ho
                  have gg : a9.tmps.getD 85 undef = .bool false := haf ⟨27, .guard⟩ (by simp) rfl
                  refine skip_goodIn _ (wanted_some rfl (yielded_of (d := 85) rfl (by omega) gg)) ?_
                  clear haf ho hsz2 gg
                  intro K hK
                  simp only [List.getElem_toArray, List.getElem_cons_succ, List.getElem_cons_zero] at hK ⊢
                  go_simp
                  exact hK _ _ ⟨Below.refl _ _, hW, rfl⟩
                | 29, ho, haf =>
                  obtain rfl := Option.some.inj ho
                  have gg : a9.tmps.getD 85 undef = .bool false := haf ⟨27, .guard⟩ (by simp) rfl
                  have f28 := getq (show a9.tmps.getD 86 undef = .pointer (some ⟨Bx, 0, none⟩) from haf ⟨28, .data⟩ (by simp) rfl)
                  refine skip_goodIn _ (wanted_some rfl (yielded_of (d := 85) rfl (by omega) gg)) ?_
                  clear haf ho hsz2 gg
                  intro K hK
                  simp only [List.getElem_toArray, List.getElem_cons_succ, List.getElem_cons_zero] at hK ⊢
                  have z0 := (hW.cell (p := ⟨Bx, 0, none⟩) hBxU).trans k0
                  go_simp
                  exact hK _ _ ⟨Below.refl _ _, hW, rfl⟩
                | 30, ho, haf =>
                  obtain rfl := Option.some.inj ho
                  have gg : a9.tmps.getD 85 undef = .bool false := haf ⟨27, .guard⟩ (by simp) rfl
                  refine skip_goodIn _ (wanted_some rfl (yielded_of (d := 85) rfl (by omega) gg)) ?_
                  clear haf ho hsz2 gg
                  intro K hK
                  simp only [List.getElem_toArray, List.getElem_cons_succ, List.getElem_cons_zero] at hK ⊢
                  go_simp
                  exact hK _ _ ⟨Below.refl _ _, hW, rfl⟩
                | 31, ho, haf =>
                  obtain rfl := Option.some.inj ho
                  have gg : a9.tmps.getD 85 undef = .bool false := haf ⟨27, .guard⟩ (by simp) rfl
                  have f30 := getq (show a9.tmps.getD 88 undef = .pointer (some ⟨Bx, 1, none⟩) from haf ⟨30, .data⟩ (by simp) rfl)
                  refine skip_goodIn _ (wanted_some rfl (yielded_of (d := 85) rfl (by omega) gg)) ?_
                  clear haf ho hsz2 gg
                  intro K hK
                  simp only [List.getElem_toArray, List.getElem_cons_succ, List.getElem_cons_zero] at hK ⊢
                  go_simp
                  exact hK _ _ ⟨Below.refl _ _, hW, rfl⟩
                | 32, ho, haf =>
                  obtain rfl := Option.some.inj ho
                  have gg : a9.tmps.getD 85 undef = .bool false := haf ⟨27, .guard⟩ (by simp) rfl
                  have f31 := getq (show a9.tmps.getD 89 undef = .pointer (some ⟨Bx, 2, none⟩) from haf ⟨31, .data⟩ (by simp) rfl)
                  refine skip_goodIn _ (wanted_some rfl (yielded_of (d := 85) rfl (by omega) gg)) ?_
                  clear haf ho hsz2 gg
                  intro K hK
                  simp only [List.getElem_toArray, List.getElem_cons_succ, List.getElem_cons_zero] at hK ⊢
                  have z0 := (hW.cell (p := ⟨Bx, 2, none⟩) hBxU).trans k2
                  go_simp
                  exact hK _ _ ⟨Below.refl _ _, hW, rfl⟩
                | 33, ho, haf =>
                  obtain rfl := Option.some.inj ho
                  have gg : a9.tmps.getD 85 undef = .bool false := haf ⟨27, .guard⟩ (by simp) rfl
                  have f29 := getq (show a9.tmps.getD 87 undef = .int .i64 k from haf ⟨29, .data⟩ (by simp) rfl)
                  have f32 := getq (show a9.tmps.getD 90 undef = .int .i64 rk from haf ⟨32, .data⟩ (by simp) rfl)
                  refine skip_goodIn _ (wanted_some rfl (yielded_of (d := 85) rfl (by omega) gg)) ?_
                  clear haf ho hsz2 gg
                  intro K hK
                  simp only [List.getElem_toArray, List.getElem_cons_succ, List.getElem_cons_zero] at hK ⊢
                  go_simp
                  exact hK _ _ ⟨Below.refl _ _, hW, rfl⟩
                | 34, ho, haf =>
                  obtain rfl := Option.some.inj ho
                  have f27 := getq (show a9.tmps.getD 85 undef = .bool false from haf ⟨27, .data⟩ (by simp) rfl)
                  have f33 := getq (show a9.tmps.getD 91 undef = .bool false from haf ⟨33, .data⟩ (by simp) rfl)
                  refine skip_goodIn _ (wanted_none rfl) ?_
                  clear haf ho hsz2
                  intro K hK
                  simp only [List.getElem_toArray, List.getElem_cons_succ, List.getElem_cons_zero] at hK ⊢
                  go_simp
                  exact hK _ _ ⟨Below.refl _ _, hW, rfl⟩
                | n + 35, ho, haf => simp at ho
              · intro aa w9 hW hdf hsz hout hall
                have hat : aa.tmps = #[v0, u, Value.pointer (some { block := N, off := 0 }), undef, Value.pointer (some { block := N + 1, off := 0 }), Value.slice ba bs.length bc, Value.pointer (some { block := A, off := 0 }), Value.int IntKind.i64 (nn : Int), Value.bool true, Value.slice ca cs.length cc, Value.slice qa wm.length qc, Value.int IntKind.i64 (mm : Int), Value.bool true, Value.func (Fn.func 47) #[] #[Value.pointer (some { block := M, off := 0 })], Value.pointer (some { block := P, off := 0 }), .int .i64 (x1 : Int), Value.pointer (some { block := Bx, off := 0 }), undef, undef, undef, undef, undef, undef, undef, undef, u25, u26, u27, u28, u29, Value.tuple #[Value.slice ba bs.length bc, Value.slice (some ⟨g5, go, none⟩) wn.length pc, Value.int IntKind.i64 (nn : Int), Value.bool true], Value.slice (some ⟨lb, lo, none⟩) L.length vc, u, Value.tuple #[Value.slice ba bs.length bc, Value.slice (some ⟨g5, go, none⟩) wn.length pc, Value.int IntKind.i64 (nn : Int), Value.bool true], Value.slice ba bs.length bc, Value.slice (some ⟨g5, go, none⟩) wn.length pc, Value.int IntKind.i64 (nn : Int), Value.bool true, Value.tuple #[Value.slice ca cs.length cc, Value.slice qa wm.length qc, Value.int IntKind.i64 (mm : Int), Value.bool true], Value.slice (some ⟨lb, lo, none⟩) L.length vc, Value.tuple #[Value.slice ca cs.length cc, Value.slice qa wm.length qc, Value.int IntKind.i64 (mm : Int), Value.bool true], Value.slice ca cs.length cc, Value.slice qa wm.length qc, Value.int IntKind.i64 (mm : Int), Value.bool true, Value.bool true, Value.bool false, Value.bool false, Value.bool true, Value.bool false, Value.bool false, Value.slice ba bs.length bc, Value.func (Fn.func 47) #[] #[Value.pointer (some { block := M, off := 0 })], Value.func (Fn.func 47) #[] #[Value.pointer (some { block := M, off := 0 })], Value.bool false, Value.func (Fn.func 47) #[] #[Value.pointer (some { block := M, off := 0 })], .int .i64 (x1 : Int), .agg (frv ⟨k, ⟨rl, rk, rkey, rval⟩, ⟨pl, pk, pp, pn, pkey⟩, ⟨ec, eb, ef, es⟩⟩).toArray, .int .i64 (pre.length : Int), .slice (some ⟨lb, lo, none⟩) L.length vc, .int .i64 (L.length : Int), .bool false, .bool false, .int .i64 (x1 : Int), .slice (some ⟨g5, go, none⟩) wn.length pc, .int .i64 (pre.length : Int), .pointer (some ⟨g5, go + pre.length, none⟩), .int .i64 (x1 : Int), .bool false, .bool false, .bool false, .agg #[.int .i64 k, .int .u64 (rl : Int), .int .i64 rk, .string rkey, .string rval, .int .u64 (pl : Int), .int .i64 pk, .int .i64 pp, .int .i64 pn, .string pkey, .int .i64 ec, .int .i64 eb, .int .i64 ef, .int .u32 (es : Int)], .pointer (some ⟨Bx, 0, none⟩), .int .i64 k, .slice (some ⟨lb, lo, none⟩) L.length vc, .int .i64 (pre.length : Int), .pointer (some ⟨lb, lo + pre.length * 4, none⟩), .agg #[.int .i64 x.k, .int .i64 x.y, .int .i64 x.v, .int .i64 x.n], .int .i64 (pre.length : Int), .int .i64 ((pre.length : Int) + 1), .int .u64 ((pre.length : Int) + 1), .agg #[.int .u64 ((pre.length : Int) + 1), .int .i64 rqk, .string rqy, .string rqv], .agg #[.int .i64 k, .int .u64 ((pre.length : Int) + 1), .int .i64 rqk, .string rqy, .string rqv, .int .u64 0, .int .i64 0, .int .i64 0, .int .i64 0, .string ⟨#[]⟩, .int .i64 0, .int .i64 0, .int .i64 0, .int .u32 0], .bool false, .bool false, .bool false, .pointer (some ⟨Bx, 0, none⟩), .int .i64 k, .pointer (some ⟨Bx, 1, none⟩), .pointer (some ⟨Bx, 2, none⟩), .int .i64 rk, .bool false, .bool false, undef, undef, undef, undef, undef, undef, undef, undef, undef, undef, undef, undef, undef, undef, undef, undef, undef, undef, undef, undef, undef, undef, undef, undef, undef, undef, undef, undef, undef, undef, undef, undef, undef, undef, undef, undef, undef, undef, undef, undef, undef, undef, undef, undef, undef, undef, undef, undef, undef, undef, undef, undef, undef, undef, undef, undef, undef, undef, undef, undef, undef, undef, undef, undef, undef, undef, undef, undef, undef, undef, undef, undef, undef, undef, undef, undef, undef, undef, undef, undef, undef, undef, undef, undef, undef, undef, undef, undef, undef, undef, undef, undef, undef, undef, undef, undef, undef, undef, undef, undef, undef, undef, undef, undef, undef, undef, undef] := by
                  refine (tmps_of (lo := 58) (vs := [.int .i64 (pre.length : Int), .slice (some ⟨lb, lo, none⟩) L.length vc, .int .i64 (L.length : Int), .bool false, .bool false, .int .i64 (x1 : Int), .slice (some ⟨g5, go, none⟩) wn.length pc, .int .i64 (pre.length : Int), .pointer (some ⟨g5, go + pre.length, none⟩), .int .i64 (x1 : Int), .bool false, .bool false, .bool false, .agg #[.int .i64 k, .int .u64 (rl : Int), .int .i64 rk, .string rkey, .string rval, .int .u64 (pl : Int), .int .i64 pk, .int .i64 pp, .int .i64 pn, .string pkey, .int .i64 ec, .int .i64 eb, .int .i64 ef, .int .u32 (es : Int)], .pointer (some ⟨Bx, 0, none⟩), .int .i64 k, .slice (some ⟨lb, lo, none⟩) L.length vc, .int .i64 (pre.length : Int), .pointer (some ⟨lb, lo + pre.length * 4, none⟩), .agg #[.int .i64 x.k, .int .i64 x.y, .int .i64 x.v, .int .i64 x.n], .int .i64 (pre.length : Int), .int .i64 ((pre.length : Int) + 1), .int .u64 ((pre.length : Int) + 1), .agg #[.int .u64 ((pre.length : Int) + 1), .int .i64 rqk, .string rqy, .string rqv], .agg #[.int .i64 k, .int .u64 ((pre.length : Int) + 1), .int .i64 rqk, .string rqy, .string rqv, .int .u64 0, .int .i64 0, .int .i64 0, .int .i64 0, .string ⟨#[]⟩, .int .i64 0, .int .i64 0, .int .i64 0, .int .u32 0], .bool false, .bool false, .bool false, .pointer (some ⟨Bx, 0, none⟩), .int .i64 k, .pointer (some ⟨Bx, 1, none⟩), .pointer (some ⟨Bx, 2, none⟩), .int .i64 rk, .bool false, .bool false]) hsz (by kernel_rfl) (Nat.le_of_ble_eq_true (by kernel_rfl)) hout (fun i hi => ?_)).trans ?_
                  · match i, hi with
                    | 0, _ => exact hall 0 (by decide)
                    | 1, _ => exact hall 1 (by decide)
                    | 2, _ => exact hall 2 (by decide)
                    | 3, _ => exact hall 3 (by decide)
                    | 4, _ => exact hall 4 (by decide)
                    | 5, _ => exact hall 5 (by decide)
                    | 6, _ => exact hall 6 (by decide)
                    | 7, _ => exact hall 7 (by decide)
                    | 8, _ => exact hall 8 (by decide)
                    | 9, _ => exact hall 9 (by decide)
                    | 10, _ => exact hall 10 (by decide)
                    | 11, _ => exact hall 11 (by decide)
                    | 12, _ => exact hall 12 (by decide)
                    | 13, _ => exact hall 13 (by decide)
                    | 14, _ => exact hall 14 (by decide)
                    | 15, _ => exact hall 15 (by decide)
                    | 16, _ => exact hall 16 (by decide)
                    | 17, _ => exact hall 17 (by decide)
                    | 18, _ => exact hall 18 (by decide)
                    | 19, _ => exact hall 19 (by decide)
                    | 20, _ => exact hall 20 (by decide)
                    | 21, _ => exact hall 21 (by decide)
                    | 22, _ => exact hall 22 (by decide)
                    | 23, _ => exact hall 23 (by decide)
                    | 24, _ => exact hall 24 (by decide)
                    | 25, _ => exact hall 25 (by decide)
                    | 26, _ => exact hall 26 (by decide)
                    | 27, _ => exact hall 27 (by decide)
                    | 28, _ => exact hall 28 (by decide)
                    | 29, _ => exact hall 29 (by decide)
                    | 30, _ => exact hall 30 (by decide)
                    | 31, _ => exact hall 31 (by decide)
                    | 32, _ => exact hall 32 (by decide)
                    | 33, _ => exact hall 33 (by decide)
                    | 34, _ => exact hall 34 (by decide)
                    | n + 35, h => exact absurd h (by simp)
                  · rfl
                obtain ⟨tt, dd⟩ := aa
                simp only at hat hdf
                subst hat hdf
                clear hsz hout hall
                have bnw := boxed_below HBNU.out hPU hW
                have cnw := bnw.cell
                have fnw := bnw.frozen
                gi_wp2
                rw [HW1.out]
                refine ⟨((ko_below hW).trans (KeepsOthers.setCell _ _ _)).from _, (KeepS.of_below hW (fun k hk => ?_)).setCell (p := ⟨P, 0, none⟩) (fun h => ?_) _, (show Boxed (w9.setCell ⟨P, 0, none⟩ _) P _ _ from bnw.set _), ?_, (HB.out.trans (hW.mono (by omega))).setCell (p := ⟨P, 0, none⟩) (Nat.le_refl _) _, by have := hW.size; simp only [World.setCell, Array.size_modify] <;> omega, HXM.out⟩
                · rcases hk with hk | hk
                  · have : k < P := hk; omega
                  · exact (HX.out _ hk).2
                · rcases h with h | h
                  · exact absurd (show P < P from h) (Nat.lt_irrefl _)
                  · have := HXM.out _ h; have h2 : P + 1 ≤ P := this; omega
                · rw [HMP.out]; exact HYES.out
            · have HNO : Hid (¬ pre.map (fun x => lcP x.1) ++ [(x1, ⟨k, ⟨rl, rk, rkey, rval⟩, ⟨pl, pk, pp, pn, pkey⟩, ⟨ec, eb, ef, es⟩⟩)] <+: wn.map lcP) := hd (pre_snoc_no (by
                rw [HPL.out]
                intro e
                have e2 := HLC.out.symm.trans e
                injection e2 with e2
                injection e2 with _ e2
                have e3 := congrArg Fr.kind e2
                simp only at e3
                exact hk (by rw [← e3, hrk])))
              clear hbf hb1 hb2 hrk
              have hk2 : (k != rk) = true := by simp [hk]
              clear hk
              gi_wp2
              refine region_skipIn (fun i9 v9 _ => match i9 with
                | 0 => v9 = .int .i64 (pre.length : Int)
                | 1 => v9 = .slice (some ⟨lb, lo, none⟩) L.length vc
                | 2 => v9 = .int .i64 (L.length : Int)
                | 3 => v9 = .bool false
                | 4 => v9 = .bool false
                | 5 => v9 = .int .i64 (x1 : Int)
                | 6 => v9 = .slice (some ⟨g5, go, none⟩) wn.length pc
                | 7 => v9 = .int .i64 (pre.length : Int)
                | 8 => v9 = .pointer (some ⟨g5, go + pre.length, none⟩)
                | 9 => v9 = .int .i64 (x1 : Int)
                | 10 => v9 = .bool false
                | 11 => v9 = .bool false
                | 12 => v9 = .bool false
                | 13 => v9 = .agg #[.int .i64 k, .int .u64 (rl : Int), .int .i64 rk, .string rkey, .string rval, .int .u64 (pl : Int), .int .i64 pk, .int .i64 pp, .int .i64 pn, .string pkey, .int .i64 ec, .int .i64 eb, .int .i64 ef, .int .u32 (es : Int)]
                | 14 => v9 = .pointer (some ⟨Bx, 0, none⟩)
                | 15 => v9 = .int .i64 k
                | 16 => v9 = .slice (some ⟨lb, lo, none⟩) L.length vc
                | 17 => v9 = .int .i64 (pre.length : Int)
                | 18 => v9 = .pointer (some ⟨lb, lo + pre.length * 4, none⟩)
                | 19 => v9 = .agg #[.int .i64 x.k, .int .i64 x.y, .int .i64 x.v, .int .i64 x.n]
                | 20 => v9 = .int .i64 (pre.length : Int)
                | 21 => v9 = .int .i64 ((pre.length : Int) + 1)
                | 22 => v9 = .int .u64 ((pre.length : Int) + 1)
                | 23 => v9 = .agg #[.int .u64 ((pre.length : Int) + 1), .int .i64 rqk, .string rqy, .string rqv]
                | 24 => v9 = .agg #[.int .i64 k, .int .u64 ((pre.length : Int) + 1), .int .i64 rqk, .string rqy, .string rqv, .int .u64 0, .int .i64 0, .int .i64 0, .int .i64 0, .string ⟨#[]⟩, .int .i64 0, .int .i64 0, .int .i64 0, .int .u32 0]
                | 25 => v9 = .bool false
                | 26 => v9 = .bool false
                | 27 => v9 = .bool false
                | 28 => v9 = .pointer (some ⟨Bx, 0, none⟩)
                | 29 => v9 = .int .i64 k
                | 30 => v9 = .pointer (some ⟨Bx, 1, none⟩)
                | 31 => v9 = .pointer (some ⟨Bx, 2, none⟩)
                | 32 => v9 = .int .i64 rk
                | 33 => v9 = .bool true
                | _ => v9 = .bool true) (fun w => Below U.heap.size U w) (fun _ => trivial) hmx (by kernel_rfl) (by kernel_rfl) ((Below.refl _ _).drew) ?_ ?_ ?_
              · intro i9 v9 w8 w9 _ _ hb hG
                match i9, hG with
                | 0, h => exact h
                | 1, h => exact h
                | 2, h => exact h
                | 3, h => exact h
                | 4, h => exact h
                | 5, h => exact h
                | 6, h => exact h
                | 7, h => exact h
                | 8, h => exact h
                | 9, h => exact h
                | 10, h => exact h
                | 11, h => exact h
                | 12, h => exact h
                | 13, h => exact h
                | 14, h => exact h
                | 15, h => exact h
                | 16, h => exact h
                | 17, h => exact h
                | 18, h => exact h
                | 19, h => exact h
                | 20, h => exact h
                | 21, h => exact h
                | 22, h => exact h
                | 23, h => exact h
                | 24, h => exact h
                | 25, h => exact h
                | 26, h => exact h
                | 27, h => exact h
                | 28, h => exact h
                | 29, h => exact h
                | 30, h => exact h
                | 31, h => exact h
                | 32, h => exact h
                | 33, h => exact h
                | n + 34, h => exact h
              · intro i9 o9 ho a9 w9 hW hdf hsz hout haf
                have ee2 := getq (show a9.tmps.getD 2 undef = Value.pointer (some { block := N, off := 0 }) from hout 2 (notDst_spec (by kernel_rfl)))
                have ee6 := getq (show a9.tmps.getD 6 undef = Value.pointer (some { block := A, off := 0 }) from hout 6 (notDst_spec (by kernel_rfl)))
                have ee14 := getq (show a9.tmps.getD 14 undef = Value.pointer (some { block := P, off := 0 }) from hout 14 (notDst_spec (by kernel_rfl)))
                have ee15 := getq (show a9.tmps.getD 15 undef = .int .i64 (x1 : Int) from hout 15 (notDst_spec (by kernel_rfl)))
                have ee16 := getq (show a9.tmps.getD 16 undef = Value.pointer (some { block := Bx, off := 0 }) from hout 16 (notDst_spec (by kernel_rfl)))
                have hsz2 : a9.tmps.size = 200 := hsz
                clear hout hsz hdf
                match i9, ho, haf with
                | 0, ho, haf =>
                  obtain rfl := Option.some.inj ho
                  refine skip_goodIn _ (wanted_none rfl) ?_
                  clear haf ho hsz2
                  intro K hK
                  simp only [List.getElem_toArray, List.getElem_cons_zero] at hK ⊢
                  have z0 := (hW.cell (p := ⟨P, 0, none⟩) hPU).trans cn
                  go_simp
                  exact hK _ _ ⟨Below.refl _ _, hW, rfl⟩
                | 1, ho, haf =>
                  obtain rfl := Option.some.inj ho
                  refine skip_goodIn _ (wanted_none rfl) ?_
                  clear haf ho hsz2
                  intro K hK
                  simp only [List.getElem_toArray, List.getElem_cons_succ, List.getElem_cons_zero] at hK ⊢
                  have z0 := (hW.cell (p := ⟨N, 0, none⟩) hNU).trans cl
                  go_simp
                  exact hK _ _ ⟨Below.refl _ _, hW, rfl⟩
                | 2, ho, haf =>
                  obtain rfl := Option.some.inj ho
                  have f1 := getq (show a9.tmps.getD 59 undef = .slice (some ⟨lb, lo, none⟩) L.length vc from haf ⟨1, .data⟩ (by simp) rfl)
                  refine skip_goodIn _ (wanted_none rfl) ?_
                  clear haf ho hsz2
                  intro K hK
                  simp only [List.getElem_toArray, List.getElem_cons_succ, List.getElem_cons_zero] at hK ⊢
                  go_simp
                  exact hK _ _ ⟨Below.refl _ _, hW, rfl⟩
                | 3, ho, haf =>
                  obtain rfl := Option.some.inj ho
                  have f0 := getq (show a9.tmps.getD 58 undef = .int .i64 (pre.length : Int) from haf ⟨0, .data⟩ (by simp) rfl)
                  have f2 := getq (show a9.tmps.getD 60 undef = .int .i64 (L.length : Int) from haf ⟨2, .data⟩ (by simp) rfl)
                  refine skip_goodIn _ (wanted_none rfl) ?_
                  clear haf ho hsz2
                  intro K hK
                  simp only [List.getElem_toArray, List.getElem_cons_succ, List.getElem_cons_zero] at hK ⊢
                  go_simp
                  exact hK _ _ ⟨Below.refl _ _, hW, (by first | rfl | (simp only [Value.bool.injEq, decide_eq_false_iff_not]; omega) | (simp only [Value.bool.injEq, decide_eq_true_eq]; omega))⟩
                | 4, ho, haf =>
                  obtain rfl := Option.some.inj ho
                  have f3 := getq (show a9.tmps.getD 61 undef = .bool false from haf ⟨3, .data⟩ (by simp) rfl)
                  refine skip_goodIn _ (wanted_none rfl) ?_
                  clear haf ho hsz2
                  intro K hK
                  simp only [List.getElem_toArray, List.getElem_cons_succ, List.getElem_cons_zero] at hK ⊢
                  go_simp
                  exact hK _ _ ⟨Below.refl _ _, hW, rfl⟩
                | 5, ho, haf =>
                  obtain rfl := Option.some.inj ho
                  have gg : a9.tmps.getD 62 undef = .bool false := haf ⟨4, .guard⟩ (by simp) rfl
                  refine skip_goodIn _ (wanted_some rfl (yielded_of (d := 62) rfl (by omega) gg)) ?_
                  clear haf ho hsz2 gg
                  intro K hK
                  simp only [List.getElem_toArray, List.getElem_cons_succ, List.getElem_cons_zero] at hK ⊢
                  go_simp
                  exact hK _ _ ⟨Below.refl _ _, hW, rfl⟩
                | 6, ho, haf =>
                  obtain rfl := Option.some.inj ho
                  have gg : a9.tmps.getD 62 undef = .bool false := haf ⟨4, .guard⟩ (by simp) rfl
                  refine skip_goodIn _ (wanted_some rfl (yielded_of (d := 62) rfl (by omega) gg)) ?_
                  clear haf ho hsz2 gg
                  intro K hK
                  simp only [List.getElem_toArray, List.getElem_cons_succ, List.getElem_cons_zero] at hK ⊢
                  have z0 := (hW.cell (p := ⟨A, 0, none⟩) hAU).trans ca0
                  go_simp
                  exact hK _ _ ⟨Below.refl _ _, hW, rfl⟩
                | 7, ho, haf =>
                  obtain rfl := Option.some.inj ho
                  have gg : a9.tmps.getD 62 undef = .bool false := haf ⟨4, .guard⟩ (by simp) rfl
                  refine skip_goodIn _ (wanted_some rfl (yielded_of (d := 62) rfl (by omega) gg)) ?_
                  clear haf ho hsz2 gg
                  intro K hK
                  simp only [List.getElem_toArray, List.getElem_cons_succ, List.getElem_cons_zero] at hK ⊢
                  have z0 := (hW.cell (p := ⟨P, 0, none⟩) hPU).trans cn
                  go_simp
                  exact hK _ _ ⟨Below.refl _ _, hW, rfl⟩
                | 8, ho, haf =>
                  obtain rfl := Option.some.inj ho
                  have gg : a9.tmps.getD 62 undef = .bool false := haf ⟨4, .guard⟩ (by simp) rfl
                  have f6 := getq (show a9.tmps.getD 64 undef = .slice (some ⟨g5, go, none⟩) wn.length pc from haf ⟨6, .data⟩ (by simp) rfl)
                  have f7 := getq (show a9.tmps.getD 65 undef = .int .i64 (pre.length : Int) from haf ⟨7, .data⟩ (by simp) rfl)
                  refine skip_goodIn _ (wanted_some rfl (yielded_of (d := 62) rfl (by omega) gg)) ?_
                  clear haf ho hsz2 gg
                  intro K hK
                  simp only [List.getElem_toArray, List.getElem_cons_succ, List.getElem_cons_zero] at hK ⊢
                  go_simp
                  exact hK _ _ ⟨Below.refl _ _, hW, rfl⟩
                | 9, ho, haf =>
                  obtain rfl := Option.some.inj ho
                  have gg : a9.tmps.getD 62 undef = .bool false := haf ⟨4, .guard⟩ (by simp) rfl
                  have f8 := getq (show a9.tmps.getD 66 undef = .pointer (some ⟨g5, go + pre.length, none⟩) from haf ⟨8, .data⟩ (by simp) rfl)
                  refine skip_goodIn _ (wanted_some rfl (yielded_of (d := 62) rfl (by omega) gg)) ?_
                  clear haf ho hsz2 gg
                  intro K hK
                  simp only [List.getElem_toArray, List.getElem_cons_succ, List.getElem_cons_zero] at hK ⊢
                  have z0 := (hW.cell (p := ⟨g5, go + pre.length, none⟩) hgU).trans cp
                  go_simp
                  exact hK _ _ ⟨Below.refl _ _, hW, rfl⟩
                | 10, ho, haf =>
                  obtain rfl := Option.some.inj ho
                  have gg : a9.tmps.getD 62 undef = .bool false := haf ⟨4, .guard⟩ (by simp) rfl
                  have f5 := getq (show a9.tmps.getD 63 undef = .int .i64 (x1 : Int) from haf ⟨5, .data⟩ (by simp) rfl)
                  have f9 := getq (show a9.tmps.getD 67 undef = .int .i64 (x1 : Int) from haf ⟨9, .data⟩ (by simp) rfl)
                  refine skip_goodIn _ (wanted_some rfl (yielded_of (d := 62) rfl (by omega) gg)) ?_
                  clear haf ho hsz2 gg
                  intro K hK
                  simp only [List.getElem_toArray, List.getElem_cons_succ, List.getElem_cons_zero] at hK ⊢
                  go_simp
                  exact hK _ _ ⟨Below.refl _ _, hW, rfl⟩
                | 11, ho, haf =>
                  obtain rfl := Option.some.inj ho
                  have f4 := getq (show a9.tmps.getD 62 undef = .bool false from haf ⟨4, .data⟩ (by simp) rfl)
                  have f10 := getq (show a9.tmps.getD 68 undef = .bool false from haf ⟨10, .data⟩ (by simp) rfl)
                  refine skip_goodIn _ (wanted_none rfl) ?_
                  clear haf ho hsz2
                  intro K hK
                  simp only [List.getElem_toArray, List.getElem_cons_succ, List.getElem_cons_zero] at hK ⊢
                  go_simp
                  exact hK _ _ ⟨Below.refl _ _, hW, rfl⟩
                | 12, ho, haf =>
                  obtain rfl := Option.some.inj ho
                  have f11 := getq (show a9.tmps.getD 69 undef = .bool false from haf ⟨11, .data⟩ (by simp) rfl)
                  refine skip_goodIn _ (wanted_none rfl) ?_
                  clear haf ho hsz2
                  intro K hK
                  simp only [List.getElem_toArray, List.getElem_cons_succ, List.getElem_cons_zero] at hK ⊢
                  go_simp
                  exact hK _ _ ⟨Below.refl _ _, hW, rfl⟩
                | 13, ho, haf =>
                  obtain rfl := Option.some.inj ho
                  have gg : a9.tmps.getD 70 undef = .bool false := haf ⟨12, .guard⟩ (by simp) rfl
                  refine skip_goodIn _ (wanted_some rfl (yielded_of (d := 70) rfl (by omega) gg)) ?_
                  clear haf ho hsz2 gg
                  intro K hK
                  simp only [List.getElem_toArray, List.getElem_cons_succ, List.getElem_cons_zero] at hK ⊢
                  have z0 := (hW.cell (p := ⟨Bx, 0, none⟩) hBxU).trans k0
                  have z1 := (hW.cell (p := ⟨Bx, 1, none⟩) hBxU).trans k1
                  have z2 := (hW.cell (p := ⟨Bx, 2, none⟩) hBxU).trans k2
                  have z3 := (hW.cell (p := ⟨Bx, 3, none⟩) hBxU).trans k3
                  have z4 := (hW.cell (p := ⟨Bx, 4, none⟩) hBxU).trans k4
                  have z5 := (hW.cell (p := ⟨Bx, 5, none⟩) hBxU).trans k5
                  have z6 := (hW.cell (p := ⟨Bx, 6, none⟩) hBxU).trans k6
                  have z7 := (hW.cell (p := ⟨Bx, 7, none⟩) hBxU).trans k7
                  have z8 := (hW.cell (p := ⟨Bx, 8, none⟩) hBxU).trans k8
                  have z9 := (hW.cell (p := ⟨Bx, 9, none⟩) hBxU).trans k9
                  have z10 := (hW.cell (p := ⟨Bx, 10, none⟩) hBxU).trans k10
                  have z11 := (hW.cell (p := ⟨Bx, 11, none⟩) hBxU).trans k11
                  have z12 := (hW.cell (p := ⟨Bx, 12, none⟩) hBxU).trans k12
                  have z13 := (hW.cell (p := ⟨Bx, 13, none⟩) hBxU).trans k13
                  go_simp
                  exact hK _ _ ⟨Below.refl _ _, hW, rfl⟩
                | 14, ho, haf =>
                  obtain rfl := Option.some.inj ho
                  have gg : a9.tmps.getD 70 undef = .bool false := haf ⟨12, .guard⟩ (by simp) rfl
                  refine skip_goodIn _ (wanted_some rfl (yielded_of (d := 70) rfl (by omega) gg)) ?_
                  clear haf ho hsz2 gg
                  intro K hK
                  simp only [List.getElem_toArray, List.getElem_cons_succ, List.getElem_cons_zero] at hK ⊢
                  go_simp
                  exact hK _ _ ⟨Below.refl _ _, hW, rfl⟩
                | 15, ho, haf =>
                  obtain rfl := Option.some.inj ho
                  have gg : a9.tmps.getD 70 undef = .bool false := haf ⟨12, .guard⟩ (by simp) rfl
                  have f14 := getq (show a9.tmps.getD 72 undef = .pointer (some ⟨Bx, 0, none⟩) from haf ⟨14, .data⟩ (by simp) rfl)
                  refine skip_goodIn _ (wanted_some rfl (yielded_of (d := 70) rfl (by omega) gg)) ?_
                  clear haf ho hsz2 gg
                  intro K hK
                  simp only [List.getElem_toArray, List.getElem_cons_succ, List.getElem_cons_zero] at hK ⊢
                  have z0 := (hW.cell (p := ⟨Bx, 0, none⟩) hBxU).trans k0
                  go_simp
                  exact hK _ _ ⟨Below.refl _ _, hW, rfl⟩
                | 16, ho, haf =>
                  obtain rfl := Option.some.inj ho
                  have gg : a9.tmps.getD 70 undef = .bool false := haf ⟨12, .guard⟩ (by simp) rfl
                  refine skip_goodIn _ (wanted_some rfl (yielded_of (d := 70) rfl (by omega) gg)) ?_
                  clear haf ho hsz2 gg
                  intro K hK
                  simp only [List.getElem_toArray, List.getElem_cons_succ, List.getElem_cons_zero] at hK ⊢
                  have z0 := (hW.cell (p := ⟨N, 0, none⟩) hNU).trans cl
                  go_simp
                  exact hK _ _ ⟨Below.refl _ _, hW, rfl⟩
                | 17, ho, haf =>
                  obtain rfl := Option.some.inj ho
                  have gg : a9.tmps.getD 70 undef = .bool false := haf ⟨12, .guard⟩ (by simp) rfl
                  refine skip_goodIn _ (wanted_some rfl (yielded_of (d := 70) rfl (by omega) gg)) ?_
                  clear haf ho hsz2 gg
                  intro K hK
                  simp only [List.getElem_toArray, List.getElem_cons_succ, List.getElem_cons_zero] at hK ⊢
                  have z0 := (hW.cell (p := ⟨P, 0, none⟩) hPU).trans cn
                  go_simp
                  exact hK _ _ ⟨Below.refl _ _, hW, rfl⟩
                | 18, ho, haf =>
                  obtain rfl := Option.some.inj ho
                  have gg : a9.tmps.getD 70 undef = .bool false := haf ⟨12, .guard⟩ (by simp) rfl
                  have f16 := getq (show a9.tmps.getD 74 undef = .slice (some ⟨lb, lo, none⟩) L.length vc from haf ⟨16, .data⟩ (by simp) rfl)
                  have f17 := getq (show a9.tmps.getD 75 undef = .int .i64 (pre.length : Int) from haf ⟨17, .data⟩ (by simp) rfl)
                  refine skip_goodIn _ (wanted_some rfl (yielded_of (d := 70) rfl (by omega) gg)) ?_
                  clear haf ho hsz2 gg
                  intro K hK
                  simp only [List.getElem_toArray, List.getElem_cons_succ, List.getElem_cons_zero] at hK ⊢
                  go_simp
                  exact hK _ _ ⟨Below.refl _ _, hW, rfl⟩
                | 19, ho, haf =>
                  obtain rfl := Option.some.inj ho
                  have gg : a9.tmps.getD 70 undef = .bool false := haf ⟨12, .guard⟩ (by simp) rfl
                  have f18 := getq (show a9.tmps.getD 76 undef = .pointer (some ⟨lb, lo + pre.length * 4, none⟩) from haf ⟨18, .data⟩ (by simp) rfl)
                  refine skip_goodIn _ (wanted_some rfl (yielded_of (d := 70) rfl (by omega) gg)) ?_
                  clear haf ho hsz2 gg
                  intro K hK
                  simp only [List.getElem_toArray, List.getElem_cons_succ, List.getElem_cons_zero] at hK ⊢
                  have z0 := (hW.cell (p := ⟨lb, lo + pre.length * 4, none⟩) hlU).trans m0
                  have z1 := (hW.cell (p := ⟨lb, lo + pre.length * 4 + 1, none⟩) hlU).trans m1
                  have z2 := (hW.cell (p := ⟨lb, lo + pre.length * 4 + 2, none⟩) hlU).trans m2
                  have z3 := (hW.cell (p := ⟨lb, lo + pre.length * 4 + 3, none⟩) hlU).trans m3
                  go_simp
                  exact hK _ _ ⟨Below.refl _ _, hW, rfl⟩
                | 20, ho, haf =>
                  obtain rfl := Option.some.inj ho
                  have gg : a9.tmps.getD 70 undef = .bool false := haf ⟨12, .guard⟩ (by simp) rfl
                  refine skip_goodIn _ (wanted_some rfl (yielded_of (d := 70) rfl (by omega) gg)) ?_
                  clear haf ho hsz2 gg
                  intro K hK
                  simp only [List.getElem_toArray, List.getElem_cons_succ, List.getElem_cons_zero] at hK ⊢
                  have z0 := (hW.cell (p := ⟨P, 0, none⟩) hPU).trans cn
                  go_simp
                  exact hK _ _ ⟨Below.refl _ _, hW, rfl⟩
                | 21, ho, haf =>
                  obtain rfl := Option.some.inj ho
                  have gg : a9.tmps.getD 70 undef = .bool false := haf ⟨12, .guard⟩ (by simp) rfl
                  have f20 := getq (show a9.tmps.getD 78 undef = .int .i64 (pre.length : Int) from haf ⟨20, .data⟩ (by simp) rfl)
                  refine skip_goodIn _ (wanted_some rfl (yielded_of (d := 70) rfl (by omega) gg)) ?_
                  clear haf ho hsz2 gg
                  intro K hK
                  simp only [List.getElem_toArray, List.getElem_cons_succ, List.getElem_cons_zero] at hK ⊢
                  have zz := hw1
                  go_simp
                  exact hK _ _ ⟨Below.refl _ _, hW, rfl⟩
                | 22, ho, haf =>
                  obtain rfl := Option.some.inj ho
                  have gg : a9.tmps.getD 70 undef = .bool false := haf ⟨12, .guard⟩ (by simp) rfl
                  have f21 := getq (show a9.tmps.getD 79 undef = .int .i64 ((pre.length : Int) + 1) from haf ⟨21, .data⟩ (by simp) rfl)
                  refine skip_goodIn _ (wanted_some rfl (yielded_of (d := 70) rfl (by omega) gg)) ?_
                  clear haf ho hsz2 gg
                  intro K hK
                  simp only [List.getElem_toArray, List.getElem_cons_succ, List.getElem_cons_zero] at hK ⊢
                  have zz := hw2
                  go_simp
                  exact hK _ _ ⟨Below.refl _ _, hW, rfl⟩
                | 23, ho, haf =>
                  obtain rfl := Option.some.inj ho
                  have gg : a9.tmps.getD 70 undef = .bool false := haf ⟨12, .guard⟩ (by simp) rfl
                  have f19 := getq (show a9.tmps.getD 77 undef = .agg #[.int .i64 x.k, .int .i64 x.y, .int .i64 x.v, .int .i64 x.n] from haf ⟨19, .data⟩ (by simp) rfl)
                  have f22 := getq (show a9.tmps.getD 80 undef = .int .u64 ((pre.length : Int) + 1) from haf ⟨22, .data⟩ (by simp) rfl)
                  refine skip_goodIn _ (wanted_some rfl (yielded_of (d := 70) rfl (by omega) gg)) ?_
                  clear haf ho hsz2 gg
                  intro K hK
                  simp only [List.getElem_toArray, List.getElem_cons_succ, List.getElem_cons_zero] at hK ⊢
                  go_simp
                  refine ⟨trivial, CallsIn.mono (CallsIn.inRound lk (callsIn_wide.2 (HREC.out w9))) ?_⟩
                  rintro e9 w8 ⟨rfl, hb9⟩
                  exact hK _ _ ⟨hb9, hW.trans (hb9.mono hW.size), rfl⟩
                | 24, ho, haf =>
                  obtain rfl := Option.some.inj ho
                  have gg : a9.tmps.getD 70 undef = .bool false := haf ⟨12, .guard⟩ (by simp) rfl
                  have f15 := getq (show a9.tmps.getD 73 undef = .int .i64 k from haf ⟨15, .data⟩ (by simp) rfl)
                  have f23 := getq (show a9.tmps.getD 81 undef = .agg #[.int .u64 ((pre.length : Int) + 1), .int .i64 rqk, .string rqy, .string rqv] from haf ⟨23, .data⟩ (by simp) rfl)
                  refine skip_goodIn _ (wanted_some rfl (yielded_of (d := 70) rfl (by omega) gg)) ?_
                  clear haf ho hsz2 gg
                  intro K hK
                  simp only [List.getElem_toArray, List.getElem_cons_succ, List.getElem_cons_zero] at hK ⊢
                  go_simp
                  exact hK _ _ ⟨Below.refl _ _, hW, rfl⟩
                | 25, ho, haf =>
                  obtain rfl := Option.some.inj ho
                  have gg : a9.tmps.getD 70 undef = .bool false := haf ⟨12, .guard⟩ (by simp) rfl
                  have f13 := getq (show a9.tmps.getD 71 undef = .agg #[.int .i64 k, .int .u64 (rl : Int), .int .i64 rk, .string rkey, .string rval, .int .u64 (pl : Int), .int .i64 pk, .int .i64 pp, .int .i64 pn, .string pkey, .int .i64 ec, .int .i64 eb, .int .i64 ef, .int .u32 (es : Int)] from haf ⟨13, .data⟩ (by simp) rfl)
                  have f24 := getq (show a9.tmps.getD 82 undef = .agg #[.int .i64 k, .int .u64 ((pre.length : Int) + 1), .int .i64 rqk, .string rqy, .string rqv, .int .u64 0, .int .i64 0, .int .i64 0, .int .i64 0, .string ⟨#[]⟩, .int .i64 0, .int .i64 0, .int .i64 0, .int .u32 0] from haf ⟨24, .data⟩ (by simp) rfl)
                  refine skip_goodIn _ (wanted_some rfl (yielded_of (d := 70) rfl (by omega) gg)) ?_
                  clear haf ho hsz2 gg
                  intro K hK
                  simp only [List.getElem_toArray, List.getElem_cons_succ, List.getElem_cons_zero] at hK ⊢
                  go_simp
                  exact hK _ _ ⟨Below.refl _ _, hW, rfl⟩
                | 26, ho, haf =>
                  obtain rfl := Option.some.inj ho
                  have f12 := getq (show a9.tmps.getD 70 undef = .bool false from haf ⟨12, .data⟩ (by simp) rfl)
                  have f25 := getq (show a9.tmps.getD 83 undef = .bool false from haf ⟨25, .data⟩ (by simp) rfl)
                  refine skip_goodIn _ (wanted_none rfl) ?_
                  clear haf ho hsz2
                  intro K hK
                  simp only [List.getElem_toArray, List.getElem_cons_succ, List.getElem_cons_zero] at hK ⊢
                  go_simp
                  exact hK _ _ ⟨Below.refl _ _, hW, rfl⟩
                | 27, ho, haf =>
                  obtain rfl := Option.some.inj ho
                  have f26 := getq (show a9.tmps.getD 84 undef = .bool false from haf ⟨26, .data⟩ (by simp) rfl)
                  refine skip_goodIn _ (wanted_none rfl) ?_
                  clear haf ho hsz2
                  intro K hK
                  simp only [List.getElem_toArray, List.getElem_cons_succ, List.getElem_cons_zero] at hK ⊢
                  go_simp
                  exact hK _ _ ⟨Below.refl _ _, hW, rfl⟩
                | 28, ho, haf =>
                  obtain rfl := Option.some.inj ho
                  have gg : a9.tmps.getD 85 undef = .bool false := haf ⟨27, .guard⟩ (by simp) rfl
                  refine skip_goodIn _ (wanted_some rfl (yielded_of (d := 85) rfl (by omega) gg)) ?_
                  clear haf ho hsz2 gg
                  intro K hK
                  simp only [List.getElem_toArray, List.getElem_cons_succ, List.getElem_cons_zero] at hK ⊢
                  go_simp
                  exact hK _ _ ⟨Below.refl _ _, hW, rfl⟩
                | 29, ho, haf =>
                  obtain rfl := Option.some.inj ho
                  have gg : a9.tmps.getD 85 undef = .bool false := haf ⟨27, .guard⟩ (by simp) rfl
                  have f28 := getq (show a9.tmps.getD 86 undef = .pointer (some ⟨Bx, 0, none⟩) from haf ⟨28, .data⟩ (by simp) rfl)
                  refine skip_goodIn _ (wanted_some rfl (yielded_of (d := 85) rfl (by omega) gg)) ?_
                  clear haf ho hsz2 gg
                  intro K hK
                  simp only [List.getElem_toArray, List.getElem_cons_succ, List.getElem_cons_zero] at hK ⊢
                  have z0 := (hW.cell (p := ⟨Bx, 0, none⟩) hBxU).trans k0
                  go_simp
                  exact hK _ _ ⟨Below.refl _ _, hW, rfl⟩
                | 30, ho, haf =>
                  obtain rfl := Option.some.inj ho
                  have gg : a9.tmps.getD 85 undef = .bool false := haf ⟨27, .guard⟩ (by simp) rfl
                  refine skip_goodIn _ (wanted_some rfl (yielded_of (d := 85) rfl (by omega) gg)) ?_
                  clear haf ho hsz2 gg
                  intro K hK
                  simp only [List.getElem_toArray, List.getElem_cons_succ, List.getElem_cons_zero] at hK ⊢
                  go_simp
                  exact hK _ _ ⟨Below.refl _ _, hW, rfl⟩
                | 31, ho, haf =>
                  obtain rfl := Option.some.inj ho
                  have gg : a9.tmps.getD 85 undef = .bool false := haf ⟨27, .guard⟩ (by simp) rfl
                  have f30 := getq (show a9.tmps.getD 88 undef = .pointer (some ⟨Bx, 1, none⟩) from haf ⟨30, .data⟩ (by simp) rfl)
                  refine skip_goodIn _ (wanted_some rfl (yielded_of (d := 85) rfl (by omega) gg)) ?_
                  clear haf ho hsz2 gg
                  intro K hK
                  simp only [List.getElem_toArray, List.getElem_cons_succ, List.getElem_cons_zero] at hK ⊢
                  go_simp
                  exact hK _ _ ⟨Below.refl _ _, hW, rfl⟩
                | 32, ho, haf =>
                  obtain rfl := Option.some.inj ho
                  have gg : a9.tmps.getD 85 undef = .bool false := haf ⟨27, .guard⟩ (by simp) rfl
                  have f31 := getq (show a9.tmps.getD 89 undef = .pointer (some ⟨Bx, 2, none⟩) from haf ⟨31, .data⟩ (by simp) rfl)
                  refine skip_goodIn _ (wanted_some rfl (yielded_of (d := 85) rfl (by omega) gg)) ?_
                  clear haf ho hsz2 gg
                  intro K hK
                  simp only [List.getElem_toArray, List.getElem_cons_succ, List.getElem_cons_zero] at hK ⊢
                  have z0 := (hW.cell (p := ⟨Bx, 2, none⟩) hBxU).trans k2
                  go_simp
                  exact hK _ _ ⟨Below.refl _ _, hW, rfl⟩
                | 33, ho, haf =>
                  obtain rfl := Option.some.inj ho
                  have gg : a9.tmps.getD 85 undef = .bool false := haf ⟨27, .guard⟩ (by simp) rfl
                  have f29 := getq (show a9.tmps.getD 87 undef = .int .i64 k from haf ⟨29, .data⟩ (by simp) rfl)
                  have f32 := getq (show a9.tmps.getD 90 undef = .int .i64 rk from haf ⟨32, .data⟩ (by simp) rfl)
                  refine skip_goodIn _ (wanted_some rfl (yielded_of (d := 85) rfl (by omega) gg)) ?_
                  clear haf ho hsz2 gg
                  intro K hK
                  simp only [List.getElem_toArray, List.getElem_cons_succ, List.getElem_cons_zero] at hK ⊢
                  go_simp
                  exact hK _ _ ⟨Below.refl _ _, hW, rfl⟩
                | 34, ho, haf =>
                  obtain rfl := Option.some.inj ho
                  have f27 := getq (show a9.tmps.getD 85 undef = .bool false from haf ⟨27, .data⟩ (by simp) rfl)
                  have f33 := getq (show a9.tmps.getD 91 undef = .bool true from haf ⟨33, .data⟩ (by simp) rfl)
                  refine skip_goodIn _ (wanted_none rfl) ?_
                  clear haf ho hsz2
                  intro K hK
                  simp only [List.getElem_toArray, List.getElem_cons_succ, List.getElem_cons_zero] at hK ⊢
                  go_simp
                  exact hK _ _ ⟨Below.refl _ _, hW, rfl⟩
                | n + 35, ho, haf => simp at ho
              · intro aa w9 hW hdf hsz hout hall
                have hat : aa.tmps = #[v0, u, Value.pointer (some { block := N, off := 0 }), undef, Value.pointer (some { block := N + 1, off := 0 }), Value.slice ba bs.length bc, Value.pointer (some { block := A, off := 0 }), Value.int IntKind.i64 (nn : Int), Value.bool true, Value.slice ca cs.length cc, Value.slice qa wm.length qc, Value.int IntKind.i64 (mm : Int), Value.bool true, Value.func (Fn.func 47) #[] #[Value.pointer (some { block := M, off := 0 })], Value.pointer (some { block := P, off := 0 }), .int .i64 (x1 : Int), Value.pointer (some { block := Bx, off := 0 }), undef, undef, undef, undef, undef, undef, undef, undef, u25, u26, u27, u28, u29, Value.tuple #[Value.slice ba bs.length bc, Value.slice (some ⟨g5, go, none⟩) wn.length pc, Value.int IntKind.i64 (nn : Int), Value.bool true], Value.slice (some ⟨lb, lo, none⟩) L.length vc, u, Value.tuple #[Value.slice ba bs.length bc, Value.slice (some ⟨g5, go, none⟩) wn.length pc, Value.int IntKind.i64 (nn : Int), Value.bool true], Value.slice ba bs.length bc, Value.slice (some ⟨g5, go, none⟩) wn.length pc, Value.int IntKind.i64 (nn : Int), Value.bool true, Value.tuple #[Value.slice ca cs.length cc, Value.slice qa wm.length qc, Value.int IntKind.i64 (mm : Int), Value.bool true], Value.slice (some ⟨lb, lo, none⟩) L.length vc, Value.tuple #[Value.slice ca cs.length cc, Value.slice qa wm.length qc, Value.int IntKind.i64 (mm : Int), Value.bool true], Value.slice ca cs.length cc, Value.slice qa wm.length qc, Value.int IntKind.i64 (mm : Int), Value.bool true, Value.bool true, Value.bool false, Value.bool false, Value.bool true, Value.bool false, Value.bool false, Value.slice ba bs.length bc, Value.func (Fn.func 47) #[] #[Value.pointer (some { block := M, off := 0 })], Value.func (Fn.func 47) #[] #[Value.pointer (some { block := M, off := 0 })], Value.bool false, Value.func (Fn.func 47) #[] #[Value.pointer (some { block := M, off := 0 })], .int .i64 (x1 : Int), .agg (frv ⟨k, ⟨rl, rk, rkey, rval⟩, ⟨pl, pk, pp, pn, pkey⟩, ⟨ec, eb, ef, es⟩⟩).toArray, .int .i64 (pre.length : Int), .slice (some ⟨lb, lo, none⟩) L.length vc, .int .i64 (L.length : Int), .bool false, .bool false, .int .i64 (x1 : Int), .slice (some ⟨g5, go, none⟩) wn.length pc, .int .i64 (pre.length : Int), .pointer (some ⟨g5, go + pre.length, none⟩), .int .i64 (x1 : Int), .bool false, .bool false, .bool false, .agg #[.int .i64 k, .int .u64 (rl : Int), .int .i64 rk, .string rkey, .string rval, .int .u64 (pl : Int), .int .i64 pk, .int .i64 pp, .int .i64 pn, .string pkey, .int .i64 ec, .int .i64 eb, .int .i64 ef, .int .u32 (es : Int)], .pointer (some ⟨Bx, 0, none⟩), .int .i64 k, .slice (some ⟨lb, lo, none⟩) L.length vc, .int .i64 (pre.length : Int), .pointer (some ⟨lb, lo + pre.length * 4, none⟩), .agg #[.int .i64 x.k, .int .i64 x.y, .int .i64 x.v, .int .i64 x.n], .int .i64 (pre.length : Int), .int .i64 ((pre.length : Int) + 1), .int .u64 ((pre.length : Int) + 1), .agg #[.int .u64 ((pre.length : Int) + 1), .int .i64 rqk, .string rqy, .string rqv], .agg #[.int .i64 k, .int .u64 ((pre.length : Int) + 1), .int .i64 rqk, .string rqy, .string rqv, .int .u64 0, .int .i64 0, .int .i64 0, .int .i64 0, .string ⟨#[]⟩, .int .i64 0, .int .i64 0, .int .i64 0, .int .u32 0], .bool false, .bool false, .bool false, .pointer (some ⟨Bx, 0, none⟩), .int .i64 k, .pointer (some ⟨Bx, 1, none⟩), .pointer (some ⟨Bx, 2, none⟩), .int .i64 rk, .bool true, .bool true, undef, undef, undef, undef, undef, undef, undef, undef, undef, undef, undef, undef, undef, undef, undef, undef, undef, undef, undef, undef, undef, undef, undef, undef, undef, undef, undef, undef, undef, undef, undef, undef, undef, undef, undef, undef, undef, undef, undef, undef, undef, undef, undef, undef, undef, undef, undef, undef, undef, undef, undef, undef, undef, undef, undef, undef, undef, undef, undef, undef, undef, undef, undef, undef, undef, undef, undef, undef, undef, undef, undef, undef, undef, undef, undef, undef, undef, undef, undef, undef, undef, undef, undef, undef, undef, undef, undef, undef, undef, undef, undef, undef, undef, undef, undef, undef, undef, undef, undef, undef, undef, undef, undef, undef, undef, undef, undef] := by
                  refine (tmps_of (lo := 58) (vs := [.int .i64 (pre.length : Int), .slice (some ⟨lb, lo, none⟩) L.length vc, .int .i64 (L.length : Int), .bool false, .bool false, .int .i64 (x1 : Int), .slice (some ⟨g5, go, none⟩) wn.length pc, .int .i64 (pre.length : Int), .pointer (some ⟨g5, go + pre.length, none⟩), .int .i64 (x1 : Int), .bool false, .bool false, .bool false, .agg #[.int .i64 k, .int .u64 (rl : Int), .int .i64 rk, .string rkey, .string rval, .int .u64 (pl : Int), .int .i64 pk, .int .i64 pp, .int .i64 pn, .string pkey, .int .i64 ec, .int .i64 eb, .int .i64 ef, .int .u32 (es : Int)], .pointer (some ⟨Bx, 0, none⟩), .int .i64 k, .slice (some ⟨lb, lo, none⟩) L.length vc, .int .i64 (pre.length : Int), .pointer (some ⟨lb, lo + pre.length * 4, none⟩), .agg #[.int .i64 x.k, .int .i64 x.y, .int .i64 x.v, .int .i64 x.n], .int .i64 (pre.length : Int), .int .i64 ((pre.length : Int) + 1), .int .u64 ((pre.length : Int) + 1), .agg #[.int .u64 ((pre.length : Int) + 1), .int .i64 rqk, .string rqy, .string rqv], .agg #[.int .i64 k, .int .u64 ((pre.length : Int) + 1), .int .i64 rqk, .string rqy, .string rqv, .int .u64 0, .int .i64 0, .int .i64 0, .int .i64 0, .string ⟨#[]⟩, .int .i64 0, .int .i64 0, .int .i64 0, .int .u32 0], .bool false, .bool false, .bool false, .pointer (some ⟨Bx, 0, none⟩), .int .i64 k, .pointer (some ⟨Bx, 1, none⟩), .pointer (some ⟨Bx, 2, none⟩), .int .i64 rk, .bool true, .bool true]) hsz (by kernel_rfl) (Nat.le_of_ble_eq_true (by kernel_rfl)) hout (fun i hi => ?_)).trans ?_
                  · match i, hi with
                    | 0, _ => exact hall 0 (by decide)
                    | 1, _ => exact hall 1 (by decide)
                    | 2, _ => exact hall 2 (by decide)
                    | 3, _ => exact hall 3 (by decide)
                    | 4, _ => exact hall 4 (by decide)
                    | 5, _ => exact hall 5 (by decide)
                    | 6, _ => exact hall 6 (by decide)
                    | 7, _ => exact hall 7 (by decide)
                    | 8, _ => exact hall 8 (by decide)
                    | 9, _ => exact hall 9 (by decide)
                    | 10, _ => exact hall 10 (by decide)
                    | 11, _ => exact hall 11 (by decide)
                    | 12, _ => exact hall 12 (by decide)
                    | 13, _ => exact hall 13 (by decide)
                    | 14, _ => exact hall 14 (by decide)
                    | 15, _ => exact hall 15 (by decide)
                    | 16, _ => exact hall 16 (by decide)
                    | 17, _ => exact hall 17 (by decide)
                    | 18, _ => exact hall 18 (by decide)
                    | 19, _ => exact hall 19 (by decide)
                    | 20, _ => exact hall 20 (by decide)
                    | 21, _ => exact hall 21 (by decide)
                    | 22, _ => exact hall 22 (by decide)
                    | 23, _ => exact hall 23 (by decide)
                    | 24, _ => exact hall 24 (by decide)
                    | 25, _ => exact hall 25 (by decide)
                    | 26, _ => exact hall 26 (by decide)
                    | 27, _ => exact hall 27 (by decide)
                    | 28, _ => exact hall 28 (by decide)
                    | 29, _ => exact hall 29 (by decide)
                    | 30, _ => exact hall 30 (by decide)
                    | 31, _ => exact hall 31 (by decide)
                    | 32, _ => exact hall 32 (by decide)
                    | 33, _ => exact hall 33 (by decide)
                    | 34, _ => exact hall 34 (by decide)
                    | n + 35, h => exact absurd h (by simp)
                  · rfl
                obtain ⟨tt, dd⟩ := aa
                simp only at hat hdf
                subst hat hdf
                clear hsz hout hall
                have brw := boxed_below HBRU.out hN1U hW
                have cr := brw.cell
                have fr := brw.frozen
                gi_wp2
                refine ⟨((ko_below hW).trans (KeepsOthers.setCell _ _ _)).from _, ?_⟩
                exact fun h => HNO.out (by rw [← HMP.out]; exact h)
        · have HNO : Hid (¬ pre.map (fun x => lcP x.1) ++ [(x1, ⟨k, ⟨rl, rk, rkey, rval⟩, ⟨pl, pk, pp, pn, pkey⟩, ⟨ec, eb, ef, es⟩⟩)] <+: wn.map lcP) := hd (pre_snoc_no (by
            rw [HPL.out]
            intro e
            have e2 := HLC.out.symm.trans e
            injection e2 with e2
            injection e2 with e2 _
            exact hp e2.symm))
          have hpd : ((x1 : Int) != (p0 : Int)) = true := by simp; omega
          clear hbf hp
          gi_wp2
          refine region_skipIn (fun i9 v9 _ => match i9 with
            | 0 => v9 = .int .i64 (pre.length : Int)
            | 1 => v9 = .slice (some ⟨lb, lo, none⟩) L.length vc
            | 2 => v9 = .int .i64 (L.length : Int)
            | 3 => v9 = .bool false
            | 4 => v9 = .bool false
            | 5 => v9 = .int .i64 (x1 : Int)
            | 6 => v9 = .slice (some ⟨g5, go, none⟩) wn.length pc
            | 7 => v9 = .int .i64 (pre.length : Int)
            | 8 => v9 = .pointer (some ⟨g5, go + pre.length, none⟩)
            | 9 => v9 = .int .i64 (p0 : Int)
            | 10 => v9 = .bool true
            | 11 => v9 = .bool true
            | 12 => v9 = .bool true
            | 13 => v9 = undef
            | 14 => v9 = undef
            | 15 => v9 = undef
            | 16 => v9 = undef
            | 17 => v9 = undef
            | 18 => v9 = undef
            | 19 => v9 = undef
            | 20 => v9 = undef
            | 21 => v9 = undef
            | 22 => v9 = undef
            | 23 => v9 = undef
            | 24 => v9 = undef
            | 25 => v9 = undef
            | 26 => v9 = .bool true
            | 27 => v9 = .bool true
            | 28 => v9 = undef
            | 29 => v9 = undef
            | 30 => v9 = undef
            | 31 => v9 = undef
            | 32 => v9 = undef
            | 33 => v9 = undef
            | _ => v9 = .bool true) (fun w => Below U.heap.size U w) (fun _ => trivial) hmx (by kernel_rfl) (by kernel_rfl) ((Below.refl _ _).drew) ?_ ?_ ?_
          · intro i9 v9 w8 w9 _ _ hb hG
            match i9, hG with
            | 0, h => exact h
            | 1, h => exact h
            | 2, h => exact h
            | 3, h => exact h
            | 4, h => exact h
            | 5, h => exact h
            | 6, h => exact h
            | 7, h => exact h
            | 8, h => exact h
            | 9, h => exact h
            | 10, h => exact h
            | 11, h => exact h
            | 12, h => exact h
            | 13, h => exact h
            | 14, h => exact h
            | 15, h => exact h
            | 16, h => exact h
            | 17, h => exact h
            | 18, h => exact h
            | 19, h => exact h
            | 20, h => exact h
            | 21, h => exact h
            | 22, h => exact h
            | 23, h => exact h
            | 24, h => exact h
            | 25, h => exact h
            | 26, h => exact h
            | 27, h => exact h
            | 28, h => exact h
            | 29, h => exact h
            | 30, h => exact h
            | 31, h => exact h
            | 32, h => exact h
            | 33, h => exact h
            | n + 34, h => exact h
          · intro i9 o9 ho a9 w9 hW hdf hsz hout haf
            have ee2 := getq (show a9.tmps.getD 2 undef = Value.pointer (some { block := N, off := 0 }) from hout 2 (notDst_spec (by kernel_rfl)))
            have ee6 := getq (show a9.tmps.getD 6 undef = Value.pointer (some { block := A, off := 0 }) from hout 6 (notDst_spec (by kernel_rfl)))
            have ee14 := getq (show a9.tmps.getD 14 undef = Value.pointer (some { block := P, off := 0 }) from hout 14 (notDst_spec (by kernel_rfl)))
            have ee15 := getq (show a9.tmps.getD 15 undef = .int .i64 (x1 : Int) from hout 15 (notDst_spec (by kernel_rfl)))
            have hsz2 : a9.tmps.size = 200 := hsz
            clear hout hsz hdf
            match i9, ho, haf with
            | 0, ho, haf =>
              obtain rfl := Option.some.inj ho
              refine skip_goodIn _ (wanted_none rfl) ?_
              clear haf ho hsz2
              intro K hK
              simp only [List.getElem_toArray, List.getElem_cons_zero] at hK ⊢
              have z0 := (hW.cell (p := ⟨P, 0, none⟩) hPU).trans cn
              go_simp
              exact hK _ _ ⟨Below.refl _ _, hW, rfl⟩
            | 1, ho, haf =>
              obtain rfl := Option.some.inj ho
              refine skip_goodIn _ (wanted_none rfl) ?_
              clear haf ho hsz2
              intro K hK
              simp only [List.getElem_toArray, List.getElem_cons_succ, List.getElem_cons_zero] at hK ⊢
              have z0 := (hW.cell (p := ⟨N, 0, none⟩) hNU).trans cl
              go_simp
              exact hK _ _ ⟨Below.refl _ _, hW, rfl⟩
            | 2, ho, haf =>
              obtain rfl := Option.some.inj ho
              have f1 := getq (show a9.tmps.getD 59 undef = .slice (some ⟨lb, lo, none⟩) L.length vc from haf ⟨1, .data⟩ (by simp) rfl)
              refine skip_goodIn _ (wanted_none rfl) ?_
              clear haf ho hsz2
              intro K hK
              simp only [List.getElem_toArray, List.getElem_cons_succ, List.getElem_cons_zero] at hK ⊢
              go_simp
              exact hK _ _ ⟨Below.refl _ _, hW, rfl⟩
            | 3, ho, haf =>
              obtain rfl := Option.some.inj ho
              have f0 := getq (show a9.tmps.getD 58 undef = .int .i64 (pre.length : Int) from haf ⟨0, .data⟩ (by simp) rfl)
              have f2 := getq (show a9.tmps.getD 60 undef = .int .i64 (L.length : Int) from haf ⟨2, .data⟩ (by simp) rfl)
              refine skip_goodIn _ (wanted_none rfl) ?_
              clear haf ho hsz2
              intro K hK
              simp only [List.getElem_toArray, List.getElem_cons_succ, List.getElem_cons_zero] at hK ⊢
              go_simp
              exact hK _ _ ⟨Below.refl _ _, hW, (by first | rfl | (simp only [Value.bool.injEq, decide_eq_false_iff_not]; omega) | (simp only [Value.bool.injEq, decide_eq_true_eq]; omega))⟩
            | 4, ho, haf =>
              obtain rfl := Option.some.inj ho
              have f3 := getq (show a9.tmps.getD 61 undef = .bool false from haf ⟨3, .data⟩ (by simp) rfl)
              refine skip_goodIn _ (wanted_none rfl) ?_
              clear haf ho hsz2
              intro K hK
              simp only [List.getElem_toArray, List.getElem_cons_succ, List.getElem_cons_zero] at hK ⊢
              go_simp
              exact hK _ _ ⟨Below.refl _ _, hW, rfl⟩
            | 5, ho, haf =>
              obtain rfl := Option.some.inj ho
              have gg : a9.tmps.getD 62 undef = .bool false := haf ⟨4, .guard⟩ (by simp) rfl
              refine skip_goodIn _ (wanted_some rfl (yielded_of (d := 62) rfl (by omega) gg)) ?_
              clear haf ho hsz2 gg
              intro K hK
              simp only [List.getElem_toArray, List.getElem_cons_succ, List.getElem_cons_zero] at hK ⊢
              go_simp
              exact hK _ _ ⟨Below.refl _ _, hW, rfl⟩
            | 6, ho, haf =>
              obtain rfl := Option.some.inj ho
              have gg : a9.tmps.getD 62 undef = .bool false := haf ⟨4, .guard⟩ (by simp) rfl
              refine skip_goodIn _ (wanted_some rfl (yielded_of (d := 62) rfl (by omega) gg)) ?_
              clear haf ho hsz2 gg
              intro K hK
              simp only [List.getElem_toArray, List.getElem_cons_succ, List.getElem_cons_zero] at hK ⊢
              have z0 := (hW.cell (p := ⟨A, 0, none⟩) hAU).trans ca0
              go_simp
              exact hK _ _ ⟨Below.refl _ _, hW, rfl⟩
            | 7, ho, haf =>
              obtain rfl := Option.some.inj ho
              have gg : a9.tmps.getD 62 undef = .bool false := haf ⟨4, .guard⟩ (by simp) rfl
              refine skip_goodIn _ (wanted_some rfl (yielded_of (d := 62) rfl (by omega) gg)) ?_
              clear haf ho hsz2 gg
              intro K hK
              simp only [List.getElem_toArray, List.getElem_cons_succ, List.getElem_cons_zero] at hK ⊢
              have z0 := (hW.cell (p := ⟨P, 0, none⟩) hPU).trans cn
              go_simp
              exact hK _ _ ⟨Below.refl _ _, hW, rfl⟩
            | 8, ho, haf =>
              obtain rfl := Option.some.inj ho
              have gg : a9.tmps.getD 62 undef = .bool false := haf ⟨4, .guard⟩ (by simp) rfl
              have f6 := getq (show a9.tmps.getD 64 undef = .slice (some ⟨g5, go, none⟩) wn.length pc from haf ⟨6, .data⟩ (by simp) rfl)
              have f7 := getq (show a9.tmps.getD 65 undef = .int .i64 (pre.length : Int) from haf ⟨7, .data⟩ (by simp) rfl)
              refine skip_goodIn _ (wanted_some rfl (yielded_of (d := 62) rfl (by omega) gg)) ?_
              clear haf ho hsz2 gg
              intro K hK
              simp only [List.getElem_toArray, List.getElem_cons_succ, List.getElem_cons_zero] at hK ⊢
              go_simp
              exact hK _ _ ⟨Below.refl _ _, hW, rfl⟩
            | 9, ho, haf =>
              obtain rfl := Option.some.inj ho
              have gg : a9.tmps.getD 62 undef = .bool false := haf ⟨4, .guard⟩ (by simp) rfl
              have f8 := getq (show a9.tmps.getD 66 undef = .pointer (some ⟨g5, go + pre.length, none⟩) from haf ⟨8, .data⟩ (by simp) rfl)
              refine skip_goodIn _ (wanted_some rfl (yielded_of (d := 62) rfl (by omega) gg)) ?_
              clear haf ho hsz2 gg
              intro K hK
              simp only [List.getElem_toArray, List.getElem_cons_succ, List.getElem_cons_zero] at hK ⊢
              have z0 := (hW.cell (p := ⟨g5, go + pre.length, none⟩) hgU).trans cp
              go_simp
              exact hK _ _ ⟨Below.refl _ _, hW, rfl⟩
            | 10, ho, haf =>
              obtain rfl := Option.some.inj ho
              have gg : a9.tmps.getD 62 undef = .bool false := haf ⟨4, .guard⟩ (by simp) rfl
              have f5 := getq (show a9.tmps.getD 63 undef = .int .i64 (x1 : Int) from haf ⟨5, .data⟩ (by simp) rfl)
              have f9 := getq (show a9.tmps.getD 67 undef = .int .i64 (p0 : Int) from haf ⟨9, .data⟩ (by simp) rfl)
              refine skip_goodIn _ (wanted_some rfl (yielded_of (d := 62) rfl (by omega) gg)) ?_
              clear haf ho hsz2 gg
              intro K hK
              simp only [List.getElem_toArray, List.getElem_cons_succ, List.getElem_cons_zero] at hK ⊢
              go_simp
              exact hK _ _ ⟨Below.refl _ _, hW, rfl⟩
            | 11, ho, haf =>
              obtain rfl := Option.some.inj ho
              have f4 := getq (show a9.tmps.getD 62 undef = .bool false from haf ⟨4, .data⟩ (by simp) rfl)
              have f10 := getq (show a9.tmps.getD 68 undef = .bool true from haf ⟨10, .data⟩ (by simp) rfl)
              refine skip_goodIn _ (wanted_none rfl) ?_
              clear haf ho hsz2
              intro K hK
              simp only [List.getElem_toArray, List.getElem_cons_succ, List.getElem_cons_zero] at hK ⊢
              go_simp
              exact hK _ _ ⟨Below.refl _ _, hW, rfl⟩
            | 12, ho, haf =>
              obtain rfl := Option.some.inj ho
              have f11 := getq (show a9.tmps.getD 69 undef = .bool true from haf ⟨11, .data⟩ (by simp) rfl)
              refine skip_goodIn _ (wanted_none rfl) ?_
              clear haf ho hsz2
              intro K hK
              simp only [List.getElem_toArray, List.getElem_cons_succ, List.getElem_cons_zero] at hK ⊢
              go_simp
              exact hK _ _ ⟨Below.refl _ _, hW, rfl⟩
            | 13, ho, haf =>
              obtain rfl := Option.some.inj ho
              have gg : a9.tmps.getD 70 undef = .bool true := haf ⟨12, .guard⟩ (by simp) rfl
              exact skip_no (b := true) rfl (yielded_of (d := 70) rfl (by omega) gg) rfl
            | 14, ho, haf =>
              obtain rfl := Option.some.inj ho
              have gg : a9.tmps.getD 70 undef = .bool true := haf ⟨12, .guard⟩ (by simp) rfl
              exact skip_no (b := true) rfl (yielded_of (d := 70) rfl (by omega) gg) rfl
            | 15, ho, haf =>
              obtain rfl := Option.some.inj ho
              have gg : a9.tmps.getD 70 undef = .bool true := haf ⟨12, .guard⟩ (by simp) rfl
              exact skip_no (b := true) rfl (yielded_of (d := 70) rfl (by omega) gg) rfl
            | 16, ho, haf =>
              obtain rfl := Option.some.inj ho
              have gg : a9.tmps.getD 70 undef = .bool true := haf ⟨12, .guard⟩ (by simp) rfl
              exact skip_no (b := true) rfl (yielded_of (d := 70) rfl (by omega) gg) rfl
            | 17, ho, haf =>
              obtain rfl := Option.some.inj ho
              have gg : a9.tmps.getD 70 undef = .bool true := haf ⟨12, .guard⟩ (by simp) rfl
              exact skip_no (b := true) rfl (yielded_of (d := 70) rfl (by omega) gg) rfl
            | 18, ho, haf =>
              obtain rfl := Option.some.inj ho
              have gg : a9.tmps.getD 70 undef = .bool true := haf ⟨12, .guard⟩ (by simp) rfl
              exact skip_no (b := true) rfl (yielded_of (d := 70) rfl (by omega) gg) rfl
            | 19, ho, haf =>
              obtain rfl := Option.some.inj ho
              have gg : a9.tmps.getD 70 undef = .bool true := haf ⟨12, .guard⟩ (by simp) rfl
              exact skip_no (b := true) rfl (yielded_of (d := 70) rfl (by omega) gg) rfl
            | 20, ho, haf =>
              obtain rfl := Option.some.inj ho
              have gg : a9.tmps.getD 70 undef = .bool true := haf ⟨12, .guard⟩ (by simp) rfl
              exact skip_no (b := true) rfl (yielded_of (d := 70) rfl (by omega) gg) rfl
            | 21, ho, haf =>
              obtain rfl := Option.some.inj ho
              have gg : a9.tmps.getD 70 undef = .bool true := haf ⟨12, .guard⟩ (by simp) rfl
              exact skip_no (b := true) rfl (yielded_of (d := 70) rfl (by omega) gg) rfl
            | 22, ho, haf =>
              obtain rfl := Option.some.inj ho
              have gg : a9.tmps.getD 70 undef = .bool true := haf ⟨12, .guard⟩ (by simp) rfl
              exact skip_no (b := true) rfl (yielded_of (d := 70) rfl (by omega) gg) rfl
            | 23, ho, haf =>
              obtain rfl := Option.some.inj ho
              have gg : a9.tmps.getD 70 undef = .bool true := haf ⟨12, .guard⟩ (by simp) rfl
              exact skip_no (b := true) rfl (yielded_of (d := 70) rfl (by omega) gg) rfl
            | 24, ho, haf =>
              obtain rfl := Option.some.inj ho
              have gg : a9.tmps.getD 70 undef = .bool true := haf ⟨12, .guard⟩ (by simp) rfl
              exact skip_no (b := true) rfl (yielded_of (d := 70) rfl (by omega) gg) rfl
            | 25, ho, haf =>
              obtain rfl := Option.some.inj ho
              have gg : a9.tmps.getD 70 undef = .bool true := haf ⟨12, .guard⟩ (by simp) rfl
              exact skip_no (b := true) rfl (yielded_of (d := 70) rfl (by omega) gg) rfl
            | 26, ho, haf =>
              obtain rfl := Option.some.inj ho
              have f12 := getq (show a9.tmps.getD 70 undef = .bool true from haf ⟨12, .data⟩ (by simp) rfl)
              have f25 := getq (show a9.tmps.getD 83 undef = undef from haf ⟨25, .data⟩ (by simp) rfl)
              refine skip_goodIn _ (wanted_none rfl) ?_
              clear haf ho hsz2
              intro K hK
              simp only [List.getElem_toArray, List.getElem_cons_succ, List.getElem_cons_zero] at hK ⊢
              go_simp
              exact hK _ _ ⟨Below.refl _ _, hW, rfl⟩
            | 27, ho, haf =>
              obtain rfl := Option.some.inj ho
              have f26 := getq (show a9.tmps.getD 84 undef = .bool true from haf ⟨26, .data⟩ (by simp) rfl)
              refine skip_goodIn _ (wanted_none rfl) ?_
              clear haf ho hsz2
              intro K hK
              simp only [List.getElem_toArray, List.getElem_cons_succ, List.getElem_cons_zero] at hK ⊢
              go_simp
              exact hK _ _ ⟨Below.refl _ _, hW, rfl⟩
            | 28, ho, haf =>
              obtain rfl := Option.some.inj ho
              have gg : a9.tmps.getD 85 undef = .bool true := haf ⟨27, .guard⟩ (by simp) rfl
              exact skip_no (b := true) rfl (yielded_of (d := 85) rfl (by omega) gg) rfl
            | 29, ho, haf =>
              obtain rfl := Option.some.inj ho
              have gg : a9.tmps.getD 85 undef = .bool true := haf ⟨27, .guard⟩ (by simp) rfl
              exact skip_no (b := true) rfl (yielded_of (d := 85) rfl (by omega) gg) rfl
            | 30, ho, haf =>
              obtain rfl := Option.some.inj ho
              have gg : a9.tmps.getD 85 undef = .bool true := haf ⟨27, .guard⟩ (by simp) rfl
              exact skip_no (b := true) rfl (yielded_of (d := 85) rfl (by omega) gg) rfl
            | 31, ho, haf =>
              obtain rfl := Option.some.inj ho
              have gg : a9.tmps.getD 85 undef = .bool true := haf ⟨27, .guard⟩ (by simp) rfl
              exact skip_no (b := true) rfl (yielded_of (d := 85) rfl (by omega) gg) rfl
            | 32, ho, haf =>
              obtain rfl := Option.some.inj ho
              have gg : a9.tmps.getD 85 undef = .bool true := haf ⟨27, .guard⟩ (by simp) rfl
              exact skip_no (b := true) rfl (yielded_of (d := 85) rfl (by omega) gg) rfl
            | 33, ho, haf =>
              obtain rfl := Option.some.inj ho
              have gg : a9.tmps.getD 85 undef = .bool true := haf ⟨27, .guard⟩ (by simp) rfl
              exact skip_no (b := true) rfl (yielded_of (d := 85) rfl (by omega) gg) rfl
            | 34, ho, haf =>
              obtain rfl := Option.some.inj ho
              have f27 := getq (show a9.tmps.getD 85 undef = .bool true from haf ⟨27, .data⟩ (by simp) rfl)
              have f33 := getq (show a9.tmps.getD 91 undef = undef from haf ⟨33, .data⟩ (by simp) rfl)
              refine skip_goodIn _ (wanted_none rfl) ?_
              clear haf ho hsz2
              intro K hK
              simp only [List.getElem_toArray, List.getElem_cons_succ, List.getElem_cons_zero] at hK ⊢
              go_simp
              exact hK _ _ ⟨Below.refl _ _, hW, rfl⟩
            | n + 35, ho, haf => simp at ho
          · intro aa w9 hW hdf hsz hout hall
            have hat : aa.tmps = #[v0, u, Value.pointer (some { block := N, off := 0 }), undef, Value.pointer (some { block := N + 1, off := 0 }), Value.slice ba bs.length bc, Value.pointer (some { block := A, off := 0 }), Value.int IntKind.i64 (nn : Int), Value.bool true, Value.slice ca cs.length cc, Value.slice qa wm.length qc, Value.int IntKind.i64 (mm : Int), Value.bool true, Value.func (Fn.func 47) #[] #[Value.pointer (some { block := M, off := 0 })], Value.pointer (some { block := P, off := 0 }), .int .i64 (x1 : Int), Value.pointer (some { block := Bx, off := 0 }), undef, undef, undef, undef, undef, undef, undef, undef, u25, u26, u27, u28, u29, Value.tuple #[Value.slice ba bs.length bc, Value.slice (some ⟨g5, go, none⟩) wn.length pc, Value.int IntKind.i64 (nn : Int), Value.bool true], Value.slice (some ⟨lb, lo, none⟩) L.length vc, u, Value.tuple #[Value.slice ba bs.length bc, Value.slice (some ⟨g5, go, none⟩) wn.length pc, Value.int IntKind.i64 (nn : Int), Value.bool true], Value.slice ba bs.length bc, Value.slice (some ⟨g5, go, none⟩) wn.length pc, Value.int IntKind.i64 (nn : Int), Value.bool true, Value.tuple #[Value.slice ca cs.length cc, Value.slice qa wm.length qc, Value.int IntKind.i64 (mm : Int), Value.bool true], Value.slice (some ⟨lb, lo, none⟩) L.length vc, Value.tuple #[Value.slice ca cs.length cc, Value.slice qa wm.length qc, Value.int IntKind.i64 (mm : Int), Value.bool true], Value.slice ca cs.length cc, Value.slice qa wm.length qc, Value.int IntKind.i64 (mm : Int), Value.bool true, Value.bool true, Value.bool false, Value.bool false, Value.bool true, Value.bool false, Value.bool false, Value.slice ba bs.length bc, Value.func (Fn.func 47) #[] #[Value.pointer (some { block := M, off := 0 })], Value.func (Fn.func 47) #[] #[Value.pointer (some { block := M, off := 0 })], Value.bool false, Value.func (Fn.func 47) #[] #[Value.pointer (some { block := M, off := 0 })], .int .i64 (x1 : Int), .agg (frv ⟨k, ⟨rl, rk, rkey, rval⟩, ⟨pl, pk, pp, pn, pkey⟩, ⟨ec, eb, ef, es⟩⟩).toArray, .int .i64 (pre.length : Int), .slice (some ⟨lb, lo, none⟩) L.length vc, .int .i64 (L.length : Int), .bool false, .bool false, .int .i64 (x1 : Int), .slice (some ⟨g5, go, none⟩) wn.length pc, .int .i64 (pre.length : Int), .pointer (some ⟨g5, go + pre.length, none⟩), .int .i64 (p0 : Int), .bool true, .bool true, .bool true, undef, undef, undef, undef, undef, undef, undef, undef, undef, undef, undef, undef, undef, .bool true, .bool true, undef, undef, undef, undef, undef, undef, .bool true, undef, undef, undef, undef, undef, undef, undef, undef, undef, undef, undef, undef, undef, undef, undef, undef, undef, undef, undef, undef, undef, undef, undef, undef, undef, undef, undef, undef, undef, undef, undef, undef, undef, undef, undef, undef, undef, undef, undef, undef, undef, undef, undef, undef, undef, undef, undef, undef, undef, undef, undef, undef, undef, undef, undef, undef, undef, undef, undef, undef, undef, undef, undef, undef, undef, undef, undef, undef, undef, undef, undef, undef, undef, undef, undef, undef, undef, undef, undef, undef, undef, undef, undef, undef, undef, undef, undef, undef, undef, undef, undef, undef, undef, undef, undef, undef, undef, undef, undef, undef, undef, undef, undef, undef, undef, undef, undef] := by
              refine (tmps_of (lo := 58) (vs := [.int .i64 (pre.length : Int), .slice (some ⟨lb, lo, none⟩) L.length vc, .int .i64 (L.length : Int), .bool false, .bool false, .int .i64 (x1 : Int), .slice (some ⟨g5, go, none⟩) wn.length pc, .int .i64 (pre.length : Int), .pointer (some ⟨g5, go + pre.length, none⟩), .int .i64 (p0 : Int), .bool true, .bool true, .bool true, undef, undef, undef, undef, undef, undef, undef, undef, undef, undef, undef, undef, undef, .bool true, .bool true, undef, undef, undef, undef, undef, undef, .bool true]) hsz (by kernel_rfl) (Nat.le_of_ble_eq_true (by kernel_rfl)) hout (fun i hi => ?_)).trans ?_
              · match i, hi with
                | 0, _ => exact hall 0 (by decide)
                | 1, _ => exact hall 1 (by decide)
                | 2, _ => exact hall 2 (by decide)
                | 3, _ => exact hall 3 (by decide)
                | 4, _ => exact hall 4 (by decide)
                | 5, _ => exact hall 5 (by decide)
                | 6, _ => exact hall 6 (by decide)
                | 7, _ => exact hall 7 (by decide)
                | 8, _ => exact hall 8 (by decide)
                | 9, _ => exact hall 9 (by decide)
                | 10, _ => exact hall 10 (by decide)
                | 11, _ => exact hall 11 (by decide)
                | 12, _ => exact hall 12 (by decide)
                | 13, _ => exact hall 13 (by decide)
                | 14, _ => exact hall 14 (by decide)
                | 15, _ => exact hall 15 (by decide)
                | 16, _ => exact hall 16 (by decide)
                | 17, _ => exact hall 17 (by decide)
                | 18, _ => exact hall 18 (by decide)
                | 19, _ => exact hall 19 (by decide)
                | 20, _ => exact hall 20 (by decide)
                | 21, _ => exact hall 21 (by decide)
                | 22, _ => exact hall 22 (by decide)
                | 23, _ => exact hall 23 (by decide)
                | 24, _ => exact hall 24 (by decide)
                | 25, _ => exact hall 25 (by decide)
                | 26, _ => exact hall 26 (by decide)
                | 27, _ => exact hall 27 (by decide)
                | 28, _ => exact hall 28 (by decide)
                | 29, _ => exact hall 29 (by decide)
                | 30, _ => exact hall 30 (by decide)
                | 31, _ => exact hall 31 (by decide)
                | 32, _ => exact hall 32 (by decide)
                | 33, _ => exact hall 33 (by decide)
                | 34, _ => exact hall 34 (by decide)
                | n + 35, h => exact absurd h (by simp)
              · rfl
            obtain ⟨tt, dd⟩ := aa
            simp only at hat hdf
            subst hat hdf
            clear hsz hout hall
            have brw := boxed_below HBRU.out hN1U hW
            have cr := brw.cell
            have fr := brw.frozen
            gi_wp2
            refine ⟨((ko_below hW).trans (KeepsOthers.setCell _ _ _)).from _, ?_⟩
            exact fun h => HNO.out (by rw [← HMP.out]; exact h)
      · have hge : (pre.length : Int) ≥ (L.length : Int) := by omega
        have HNO : Hid (¬ pre.map (fun x => lcP x.1) ++ [(x1, ⟨k, ⟨rl, rk, rkey, rval⟩, ⟨pl, pk, pp, pn, pkey⟩, ⟨ec, eb, ef, es⟩⟩)] <+: wn.map lcP) := hd (pre_snoc_no (by
          rw [HPL.out, List.getElem?_eq_none (by rw [List.length_map, HWL.out]; omega)]
          intro e
          cases e))
        gi_wp2
        refine region_skipIn (fun i9 v9 _ => match i9 with
          | 0 => v9 = .int .i64 (pre.length : Int)
          | 1 => v9 = .slice va L.length vc
          | 2 => v9 = .int .i64 (L.length : Int)
          | 3 => v9 = .bool true
          | 4 => v9 = .bool true
          | 5 => v9 = undef
          | 6 => v9 = undef
          | 7 => v9 = undef
          | 8 => v9 = undef
          | 9 => v9 = undef
          | 10 => v9 = undef
          | 11 => v9 = .bool true
          | 12 => v9 = .bool true
          | 13 => v9 = undef
          | 14 => v9 = undef
          | 15 => v9 = undef
          | 16 => v9 = undef
          | 17 => v9 = undef
          | 18 => v9 = undef
          | 19 => v9 = undef
          | 20 => v9 = undef
          | 21 => v9 = undef
          | 22 => v9 = undef
          | 23 => v9 = undef
          | 24 => v9 = undef
          | 25 => v9 = undef
          | 26 => v9 = .bool true
          | 27 => v9 = .bool true
          | 28 => v9 = undef
          | 29 => v9 = undef
          | 30 => v9 = undef
          | 31 => v9 = undef
          | 32 => v9 = undef
          | 33 => v9 = undef
          | _ => v9 = .bool true) (fun w => Below U.heap.size U w) (fun _ => trivial) hmx (by kernel_rfl) (by kernel_rfl) ((Below.refl _ _).drew) ?_ ?_ ?_
        · intro i9 v9 w8 w9 _ _ hb hG
          match i9, hG with
          | 0, h => exact h
          | 1, h => exact h
          | 2, h => exact h
          | 3, h => exact h
          | 4, h => exact h
          | 5, h => exact h
          | 6, h => exact h
          | 7, h => exact h
          | 8, h => exact h
          | 9, h => exact h
          | 10, h => exact h
          | 11, h => exact h
          | 12, h => exact h
          | 13, h => exact h
          | 14, h => exact h
          | 15, h => exact h
          | 16, h => exact h
          | 17, h => exact h
          | 18, h => exact h
          | 19, h => exact h
          | 20, h => exact h
          | 21, h => exact h
          | 22, h => exact h
          | 23, h => exact h
          | 24, h => exact h
          | 25, h => exact h
          | 26, h => exact h
          | 27, h => exact h
          | 28, h => exact h
          | 29, h => exact h
          | 30, h => exact h
          | 31, h => exact h
          | 32, h => exact h
          | 33, h => exact h
          | n + 34, h => exact h
        · intro i9 o9 ho a9 w9 hW hdf hsz hout haf
          have ee2 := getq (show a9.tmps.getD 2 undef = Value.pointer (some { block := N, off := 0 }) from hout 2 (notDst_spec (by kernel_rfl)))
          have ee14 := getq (show a9.tmps.getD 14 undef = Value.pointer (some { block := P, off := 0 }) from hout 14 (notDst_spec (by kernel_rfl)))
          have hsz2 : a9.tmps.size = 200 := hsz
          clear hout hsz hdf
          match i9, ho, haf with
          | 0, ho, haf =>
            obtain rfl := Option.some.inj ho
            refine skip_goodIn _ (wanted_none rfl) ?_
            clear haf ho hsz2
            intro K hK
            simp only [List.getElem_toArray, List.getElem_cons_zero] at hK ⊢
            have z0 := (hW.cell (p := ⟨P, 0, none⟩) hPU).trans cn
            go_simp
            exact hK _ _ ⟨Below.refl _ _, hW, rfl⟩
          | 1, ho, haf =>
            obtain rfl := Option.some.inj ho
            refine skip_goodIn _ (wanted_none rfl) ?_
            clear haf ho hsz2
            intro K hK
            simp only [List.getElem_toArray, List.getElem_cons_succ, List.getElem_cons_zero] at hK ⊢
            have z0 := (hW.cell (p := ⟨N, 0, none⟩) hNU).trans cl
            go_simp
            exact hK _ _ ⟨Below.refl _ _, hW, rfl⟩
          | 2, ho, haf =>
            obtain rfl := Option.some.inj ho
            have f1 := getq (show a9.tmps.getD 59 undef = .slice va L.length vc from haf ⟨1, .data⟩ (by simp) rfl)
            refine skip_goodIn _ (wanted_none rfl) ?_
            clear haf ho hsz2
            intro K hK
            simp only [List.getElem_toArray, List.getElem_cons_succ, List.getElem_cons_zero] at hK ⊢
            go_simp
            exact hK _ _ ⟨Below.refl _ _, hW, rfl⟩
          | 3, ho, haf =>
            obtain rfl := Option.some.inj ho
            have f0 := getq (show a9.tmps.getD 58 undef = .int .i64 (pre.length : Int) from haf ⟨0, .data⟩ (by simp) rfl)
            have f2 := getq (show a9.tmps.getD 60 undef = .int .i64 (L.length : Int) from haf ⟨2, .data⟩ (by simp) rfl)
            refine skip_goodIn _ (wanted_none rfl) ?_
            clear haf ho hsz2
            intro K hK
            simp only [List.getElem_toArray, List.getElem_cons_succ, List.getElem_cons_zero] at hK ⊢
            go_simp
            exact hK _ _ ⟨Below.refl _ _, hW, (by first | rfl | (simp only [Value.bool.injEq, decide_eq_false_iff_not]; omega) | (simp only [Value.bool.injEq, decide_eq_true_eq]; omega))⟩
          | 4, ho, haf =>
            obtain rfl := Option.some.inj ho
            have f3 := getq (show a9.tmps.getD 61 undef = .bool true from haf ⟨3, .data⟩ (by simp) rfl)
            refine skip_goodIn _ (wanted_none rfl) ?_
            clear haf ho hsz2
            intro K hK
            simp only [List.getElem_toArray, List.getElem_cons_succ, List.getElem_cons_zero] at hK ⊢
            go_simp
            exact hK _ _ ⟨Below.refl _ _, hW, rfl⟩
          | 5, ho, haf =>
            obtain rfl := Option.some.inj ho
            have gg : a9.tmps.getD 62 undef = .bool true := haf ⟨4, .guard⟩ (by simp) rfl
            exact skip_no (b := true) rfl (yielded_of (d := 62) rfl (by omega) gg) rfl
          | 6, ho, haf =>
            obtain rfl := Option.some.inj ho
            have gg : a9.tmps.getD 62 undef = .bool true := haf ⟨4, .guard⟩ (by simp) rfl
            exact skip_no (b := true) rfl (yielded_of (d := 62) rfl (by omega) gg) rfl
          | 7, ho, haf =>
            obtain rfl := Option.some.inj ho
            have gg : a9.tmps.getD 62 undef = .bool true := haf ⟨4, .guard⟩ (by simp) rfl
            exact skip_no (b := true) rfl (yielded_of (d := 62) rfl (by omega) gg) rfl
          | 8, ho, haf =>
            obtain rfl := Option.some.inj ho
            have gg : a9.tmps.getD 62 undef = .bool true := haf ⟨4, .guard⟩ (by simp) rfl
            exact skip_no (b := true) rfl (yielded_of (d := 62) rfl (by omega) gg) rfl
          | 9, ho, haf =>
            obtain rfl := Option.some.inj ho
            have gg : a9.tmps.getD 62 undef = .bool true := haf ⟨4, .guard⟩ (by simp) rfl
            exact skip_no (b := true) rfl (yielded_of (d := 62) rfl (by omega) gg) rfl
          | 10, ho, haf =>
            obtain rfl := Option.some.inj ho
            have gg : a9.tmps.getD 62 undef = .bool true := haf ⟨4, .guard⟩ (by simp) rfl
            exact skip_no (b := true) rfl (yielded_of (d := 62) rfl (by omega) gg) rfl
          | 11, ho, haf =>
            obtain rfl := Option.some.inj ho
            have f4 := getq (show a9.tmps.getD 62 undef = .bool true from haf ⟨4, .data⟩ (by simp) rfl)
            have f10 := getq (show a9.tmps.getD 68 undef = undef from haf ⟨10, .data⟩ (by simp) rfl)
            refine skip_goodIn _ (wanted_none rfl) ?_
            clear haf ho hsz2
            intro K hK
            simp only [List.getElem_toArray, List.getElem_cons_succ, List.getElem_cons_zero] at hK ⊢
            go_simp
            exact hK _ _ ⟨Below.refl _ _, hW, rfl⟩
          | 12, ho, haf =>
            obtain rfl := Option.some.inj ho
            have f11 := getq (show a9.tmps.getD 69 undef = .bool true from haf ⟨11, .data⟩ (by simp) rfl)
            refine skip_goodIn _ (wanted_none rfl) ?_
            clear haf ho hsz2
            intro K hK
            simp only [List.getElem_toArray, List.getElem_cons_succ, List.getElem_cons_zero] at hK ⊢
            go_simp
            exact hK _ _ ⟨Below.refl _ _, hW, rfl⟩
          | 13, ho, haf =>
            obtain rfl := Option.some.inj ho
            have gg : a9.tmps.getD 70 undef = .bool true := haf ⟨12, .guard⟩ (by simp) rfl
            exact skip_no (b := true) rfl (yielded_of (d := 70) rfl (by omega) gg) rfl
          | 14, ho, haf =>
            obtain rfl := Option.some.inj ho
            have gg : a9.tmps.getD 70 undef = .bool true := haf ⟨12, .guard⟩ (by simp) rfl
            exact skip_no (b := true) rfl (yielded_of (d := 70) rfl (by omega) gg) rfl
          | 15, ho, haf =>
            obtain rfl := Option.some.inj ho
            have gg : a9.tmps.getD 70 undef = .bool true := haf ⟨12, .guard⟩ (by simp) rfl
            exact skip_no (b := true) rfl (yielded_of (d := 70) rfl (by omega) gg) rfl
          | 16, ho, haf =>
            obtain rfl := Option.some.inj ho
            have gg : a9.tmps.getD 70 undef = .bool true := haf ⟨12, .guard⟩ (by simp) rfl
            exact skip_no (b := true) rfl (yielded_of (d := 70) rfl (by omega) gg) rfl
          | 17, ho, haf =>
            obtain rfl := Option.some.inj ho
            have gg : a9.tmps.getD 70 undef = .bool true := haf ⟨12, .guard⟩ (by simp) rfl
            exact skip_no (b := true) rfl (yielded_of (d := 70) rfl (by omega) gg) rfl
          | 18, ho, haf =>
            obtain rfl := Option.some.inj ho
            have gg : a9.tmps.getD 70 undef = .bool true := haf ⟨12, .guard⟩ (by simp) rfl
            exact skip_no (b := true) rfl (yielded_of (d := 70) rfl (by omega) gg) rfl
          | 19, ho, haf =>
            obtain rfl := Option.some.inj ho
            have gg : a9.tmps.getD 70 undef = .bool true := haf ⟨12, .guard⟩ (by simp) rfl
            exact skip_no (b := true) rfl (yielded_of (d := 70) rfl (by omega) gg) rfl
          | 20, ho, haf =>
            obtain rfl := Option.some.inj ho
            have gg : a9.tmps.getD 70 undef = .bool true := haf ⟨12, .guard⟩ (by simp) rfl
            exact skip_no (b := true) rfl (yielded_of (d := 70) rfl (by omega) gg) rfl
          | 21, ho, haf =>
            obtain rfl := Option.some.inj ho
            have gg : a9.tmps.getD 70 undef = .bool true := haf ⟨12, .guard⟩ (by simp) rfl
            exact skip_no (b := true) rfl (yielded_of (d := 70) rfl (by omega) gg) rfl
          | 22, ho, haf =>
            obtain rfl := Option.some.inj ho
            have gg : a9.tmps.getD 70 undef = .bool true := haf ⟨12, .guard⟩ (by simp) rfl
            exact skip_no (b := true) rfl (yielded_of (d := 70) rfl (by omega) gg) rfl
          | 23, ho, haf =>
            obtain rfl := Option.some.inj ho
            have gg : a9.tmps.getD 70 undef = .bool true := haf ⟨12, .guard⟩ (by simp) rfl
            exact skip_no (b := true) rfl (yielded_of (d := 70) rfl (by omega) gg) rfl
          | 24, ho, haf =>
            obtain rfl := Option.some.inj ho
            have gg : a9.tmps.getD 70 undef = .bool true := haf ⟨12, .guard⟩ (by simp) rfl
            exact skip_no (b := true) rfl (yielded_of (d := 70) rfl (by omega) gg) rfl
          | 25, ho, haf =>
            obtain rfl := Option.some.inj ho
            have gg : a9.tmps.getD 70 undef = .bool true := haf ⟨12, .guard⟩ (by simp) rfl
            exact skip_no (b := true) rfl (yielded_of (d := 70) rfl (by omega) gg) rfl
          | 26, ho, haf =>
            obtain rfl := Option.some.inj ho
            have f12 := getq (show a9.tmps.getD 70 undef = .bool true from haf ⟨12, .data⟩ (by simp) rfl)
            have f25 := getq (show a9.tmps.getD 83 undef = undef from haf ⟨25, .data⟩ (by simp) rfl)
            refine skip_goodIn _ (wanted_none rfl) ?_
            clear haf ho hsz2
            intro K hK
            simp only [List.getElem_toArray, List.getElem_cons_succ, List.getElem_cons_zero] at hK ⊢
            go_simp
            exact hK _ _ ⟨Below.refl _ _, hW, rfl⟩
          | 27, ho, haf =>
            obtain rfl := Option.some.inj ho
            have f26 := getq (show a9.tmps.getD 84 undef = .bool true from haf ⟨26, .data⟩ (by simp) rfl)
            refine skip_goodIn _ (wanted_none rfl) ?_
            clear haf ho hsz2
            intro K hK
            simp only [List.getElem_toArray, List.getElem_cons_succ, List.getElem_cons_zero] at hK ⊢
            go_simp
            exact hK _ _ ⟨Below.refl _ _, hW, rfl⟩
          | 28, ho, haf =>
            obtain rfl := Option.some.inj ho
            have gg : a9.tmps.getD 85 undef = .bool true := haf ⟨27, .guard⟩ (by simp) rfl
            exact skip_no (b := true) rfl (yielded_of (d := 85) rfl (by omega) gg) rfl
          | 29, ho, haf =>
            obtain rfl := Option.some.inj ho
            have gg : a9.tmps.getD 85 undef = .bool true := haf ⟨27, .guard⟩ (by simp) rfl
            exact skip_no (b := true) rfl (yielded_of (d := 85) rfl (by omega) gg) rfl
          | 30, ho, haf =>
            obtain rfl := Option.some.inj ho
            have gg : a9.tmps.getD 85 undef = .bool true := haf ⟨27, .guard⟩ (by simp) rfl
            exact skip_no (b := true) rfl (yielded_of (d := 85) rfl (by omega) gg) rfl
          | 31, ho, haf =>
            obtain rfl := Option.some.inj ho
            have gg : a9.tmps.getD 85 undef = .bool true := haf ⟨27, .guard⟩ (by simp) rfl
            exact skip_no (b := true) rfl (yielded_of (d := 85) rfl (by omega) gg) rfl
          | 32, ho, haf =>
            obtain rfl := Option.some.inj ho
            have gg : a9.tmps.getD 85 undef = .bool true := haf ⟨27, .guard⟩ (by simp) rfl
            exact skip_no (b := true) rfl (yielded_of (d := 85) rfl (by omega) gg) rfl
          | 33, ho, haf =>
            obtain rfl := Option.some.inj ho
            have gg : a9.tmps.getD 85 undef = .bool true := haf ⟨27, .guard⟩ (by simp) rfl
            exact skip_no (b := true) rfl (yielded_of (d := 85) rfl (by omega) gg) rfl
          | 34, ho, haf =>
            obtain rfl := Option.some.inj ho
            have f27 := getq (show a9.tmps.getD 85 undef = .bool true from haf ⟨27, .data⟩ (by simp) rfl)
            have f33 := getq (show a9.tmps.getD 91 undef = undef from haf ⟨33, .data⟩ (by simp) rfl)
            refine skip_goodIn _ (wanted_none rfl) ?_
            clear haf ho hsz2
            intro K hK
            simp only [List.getElem_toArray, List.getElem_cons_succ, List.getElem_cons_zero] at hK ⊢
            go_simp
            exact hK _ _ ⟨Below.refl _ _, hW, rfl⟩
          | n + 35, ho, haf => simp at ho
        · intro aa w9 hW hdf hsz hout hall
          have hat : aa.tmps = #[v0, u, Value.pointer (some { block := N, off := 0 }), undef, Value.pointer (some { block := N + 1, off := 0 }), Value.slice ba bs.length bc, Value.pointer (some { block := A, off := 0 }), Value.int IntKind.i64 (nn : Int), Value.bool true, Value.slice ca cs.length cc, Value.slice qa wm.length qc, Value.int IntKind.i64 (mm : Int), Value.bool true, Value.func (Fn.func 47) #[] #[Value.pointer (some { block := M, off := 0 })], Value.pointer (some { block := P, off := 0 }), .int .i64 (x1 : Int), Value.pointer (some { block := Bx, off := 0 }), undef, undef, undef, undef, undef, undef, undef, undef, u25, u26, u27, u28, u29, Value.tuple #[Value.slice ba bs.length bc, Value.slice pa wn.length pc, Value.int IntKind.i64 (nn : Int), Value.bool true], Value.slice va L.length vc, u, Value.tuple #[Value.slice ba bs.length bc, Value.slice pa wn.length pc, Value.int IntKind.i64 (nn : Int), Value.bool true], Value.slice ba bs.length bc, Value.slice pa wn.length pc, Value.int IntKind.i64 (nn : Int), Value.bool true, Value.tuple #[Value.slice ca cs.length cc, Value.slice qa wm.length qc, Value.int IntKind.i64 (mm : Int), Value.bool true], Value.slice va L.length vc, Value.tuple #[Value.slice ca cs.length cc, Value.slice qa wm.length qc, Value.int IntKind.i64 (mm : Int), Value.bool true], Value.slice ca cs.length cc, Value.slice qa wm.length qc, Value.int IntKind.i64 (mm : Int), Value.bool true, Value.bool true, Value.bool false, Value.bool false, Value.bool true, Value.bool false, Value.bool false, Value.slice ba bs.length bc, Value.func (Fn.func 47) #[] #[Value.pointer (some { block := M, off := 0 })], Value.func (Fn.func 47) #[] #[Value.pointer (some { block := M, off := 0 })], Value.bool false, Value.func (Fn.func 47) #[] #[Value.pointer (some { block := M, off := 0 })], .int .i64 (x1 : Int), .agg (frv ⟨k, ⟨rl, rk, rkey, rval⟩, ⟨pl, pk, pp, pn, pkey⟩, ⟨ec, eb, ef, es⟩⟩).toArray, .int .i64 (pre.length : Int), .slice va L.length vc, .int .i64 (L.length : Int), .bool true, .bool true, undef, undef, undef, undef, undef, undef, .bool true, .bool true, undef, undef, undef, undef, undef, undef, undef, undef, undef, undef, undef, undef, undef, .bool true, .bool true, undef, undef, undef, undef, undef, undef, .bool true, undef, undef, undef, undef, undef, undef, undef, undef, undef, undef, undef, undef, undef, undef, undef, undef, undef, undef, undef, undef, undef, undef, undef, undef, undef, undef, undef, undef, undef, undef, undef, undef, undef, undef, undef, undef, undef, undef, undef, undef, undef, undef, undef, undef, undef, undef, undef, undef, undef, undef, undef, undef, undef, undef, undef, undef, undef, undef, undef, undef, undef, undef, undef, undef, undef, undef, undef, undef, undef, undef, undef, undef, undef, undef, undef, undef, undef, undef, undef, undef, undef, undef, undef, undef, undef, undef, undef, undef, undef, undef, undef, undef, undef, undef, undef, undef, undef, undef, undef, undef, undef, undef, undef, undef, undef, undef, undef] := by
            refine (tmps_of (lo := 58) (vs := [.int .i64 (pre.length : Int), .slice va L.length vc, .int .i64 (L.length : Int), .bool true, .bool true, undef, undef, undef, undef, undef, undef, .bool true, .bool true, undef, undef, undef, undef, undef, undef, undef, undef, undef, undef, undef, undef, undef, .bool true, .bool true, undef, undef, undef, undef, undef, undef, .bool true]) hsz (by kernel_rfl) (Nat.le_of_ble_eq_true (by kernel_rfl)) hout (fun i hi => ?_)).trans ?_
            · match i, hi with
              | 0, _ => exact hall 0 (by decide)
              | 1, _ => exact hall 1 (by decide)
              | 2, _ => exact hall 2 (by decide)
              | 3, _ => exact hall 3 (by decide)
              | 4, _ => exact hall 4 (by decide)
              | 5, _ => exact hall 5 (by decide)
              | 6, _ => exact hall 6 (by decide)
              | 7, _ => exact hall 7 (by decide)
              | 8, _ => exact hall 8 (by decide)
              | 9, _ => exact hall 9 (by decide)
              | 10, _ => exact hall 10 (by decide)
              | 11, _ => exact hall 11 (by decide)
              | 12, _ => exact hall 12 (by decide)
              | 13, _ => exact hall 13 (by decide)
              | 14, _ => exact hall 14 (by decide)
              | 15, _ => exact hall 15 (by decide)
              | 16, _ => exact hall 16 (by decide)
              | 17, _ => exact hall 17 (by decide)
              | 18, _ => exact hall 18 (by decide)
              | 19, _ => exact hall 19 (by decide)
              | 20, _ => exact hall 20 (by decide)
              | 21, _ => exact hall 21 (by decide)
              | 22, _ => exact hall 22 (by decide)
              | 23, _ => exact hall 23 (by decide)
              | 24, _ => exact hall 24 (by decide)
              | 25, _ => exact hall 25 (by decide)
              | 26, _ => exact hall 26 (by decide)
              | 27, _ => exact hall 27 (by decide)
              | 28, _ => exact hall 28 (by decide)
              | 29, _ => exact hall 29 (by decide)
              | 30, _ => exact hall 30 (by decide)
              | 31, _ => exact hall 31 (by decide)
              | 32, _ => exact hall 32 (by decide)
              | 33, _ => exact hall 33 (by decide)
              | 34, _ => exact hall 34 (by decide)
              | n + 35, h => exact absurd h (by simp)
            · rfl
          obtain ⟨tt, dd⟩ := aa
          simp only at hat hdf
          subst hat hdf
          clear hsz hout hall
          have brw := boxed_below HBRU.out hN1U hW
          have cr := brw.cell
          have fr := brw.frozen
          gi_wp2
          refine ⟨((ko_below hW).trans (KeepsOthers.setCell _ _ _)).from _, ?_⟩
          exact fun h => HNO.out (by rw [← HMP.out]; exact h)
    case done =>
      rintro D ys X U hD hys ⟨bn, hpre, hB, hsU, hXM⟩ hKD
      gi_wp2
      refine HK.out _ _ ?_
      clear HK
      have hyl : ys.length = wn.length := by rw [← HS.out.1, ← hys, List.length_map]
      rw [hyl, HS.out.2.1] at bn
      have hBW : Below w4.heap.size w4 U := HB45.out.trans (HHS.out.symm ▸ hB)
      have HBN := hd bn
      have HKD := hd hKD
      have HBU := hd (HB5.out.trans (hB.mono (by have := HB5.out.size; have := HHS.out; have := HN.out; have := HNS.out; omega)))
      have HBL := hd (boxed_below BL5.out (by omega) hB)
      have HBR := hd (boxed_below BR5.out (by omega) hB)
      have HJB := hd (JK.keepAll (k := .u8) (M := 256) (E := 5) HJBo.out hBW)
      have HJC := hd (HJC4.out.below hBW)
      have hbl1 : bs.length ≤ 171700 := HS.out.2.2.1
      have hnn1 : nn ≤ 171700 := by have := HS.out.2.2.2.1; omega
      have HTI := hd (tiles HJB.out.1)
      have HJS := hd HS.out.2.2.2.2.2.1
      have hcl1 : cs.length ≤ 171700 := HS.out.2.2.2.2.2.2.2.1
      have HCL := hd HS.out.2.2.2.2.1
      have HEC := hd HS.out.2.2.2.2.2.2.1
      clear hyl bn hBW hB hKD hXM hpre hys HJBo HJC4 HI4 HJA4 BN BB5 BL5 BR5 BA5 HB5 HSQ HLOW HS HI5 HJA5 HJB5 HJC5 HHS HB45 HP hfn
      go_wp2_with fail
      refine Calls.mono (extents_is _ bs U (jb_isB3 HJB.out) (by omega)) ?_
      rintro e w6 ⟨u6, rfl, j6, b6⟩
      obtain ⟨E, hE⟩ : ∃ E, E = exts bs := ⟨_, rfl⟩
      rw [← hE] at j6 HTI HJS
      clear hE
      obtain ⟨xa, xc, rfl, hxc⟩ := j6.shape
      have hEl := j6.len_le
      rw [List.length_map] at hxc hEl ⊢
      rw [List.length_map] at j6
      have J6 := hd j6
      have HJB6 := hd (JK.keepAll (k := .u8) (M := 256) (E := 5) HJB.out b6)
      have HJC6 := hd (HJC.out.below b6)
      have HBN6 := hd (boxed_below HBN.out (by omega) b6)
      have HBL6 := hd (boxed_below HBL.out (by omega) b6)
      have HBR6 := hd (boxed_below HBR.out (by omega) b6)
      have HKD6 := hd ((b6.block D (Array.getElem?_eq_some_iff.1 HKD.out).1).trans HKD.out)
      have HB6 := hd (HBU.out.trans (b6.mono HBU.out.size))
      have hs6 := b6.size
      clear b6 j6 HJB HJC HBN HBL HBR HKD HBU
      unfold maxLen at hEl
      go_wp2_with fail
      go_loopw [18, 19, 20] (fun en bd i wr => ∃ (k at_ b_ : Nat) (pj : Bool), k ≤ E.length ∧ en = .int .i64 (at_ : Int) ∧ bd = .int .i64 (b_ : Int) ∧ i = .int .i64 (k : Int) ∧ at_ ≤ bs.length ∧ Tiles bs at_ pj (E.drop k) ∧ (b_ : Int) + jsum (E.drop k) = (nn : Int) ∧ (k = 0 ∨ 0 < k ∧ ∃ y, E[k - 1]? = some y ∧ y.1 = pj) ∧ Below w6.heap.size w6 wr) (fun _ _ i _ => E.length - (intOf i).toNat)
      case atStart => exact ⟨0, 0, 0, false, by omega, rfl, rfl, rfl, by omega, HTI.out, by rw [List.drop_zero]; have := HJS.out; omega, .inl rfl, Below.refl _ _⟩
      case round =>
        obtain ⟨k, at_, b_, pj, hk, rfl, rfl, rfl, hat, hT, hbs, hpj, hbr⟩ := hrel
        have HT := hd hT
        have HBS := hd hbs
        have hb_ : b_ ≤ nn := by have := tiles_jsum _ hT; omega
        clear hT hbs
        by_cases hlt : k < E.length
        · obtain ⟨x, hx⟩ : ∃ x, E[k]? = some x := ⟨E[k], List.getElem?_eq_getElem hlt⟩
          have hdr : E.drop k = x :: E.drop (k + 1) := by rw [List.drop_eq_getElem_cons hlt]; congr 1; rw [List.getElem?_eq_getElem hlt] at hx; injection hx
          rw [hdr] at HT HBS
          obtain ⟨j, n, rfl, hn1, hn2, hjp, hT2⟩ := tiles_conS HT.out
          have HT2 := hd hT2
          have hbs2 : (b_ : Int) + ((if j = true then (n : Int) else 0) + jsum (E.drop (k + 1))) = (nn : Int) := HBS.out
          have HBS2 := hd hbs2
          have hjn := tiles_jsum _ hT2
          have hbn : (b_ : Int) + (if j = true then (n : Int) else 0) ≤ nn := by omega
          clear HT HBS hT2 hdr hbs2 hjn
          have jr := J6.out.keepAll hbr
          obtain ⟨g, c1', hv, hgc, hgm⟩ := jr.nn (by intro e; have := congrArg List.length e; rw [List.length_map] at this; simp at this; rw [this] at hlt; simp at hlt)
          injection hv with hv1 hv2 hv3
          subst hv1 hv3
          have hgl : g < w6.heap.size := J6.out.blk_lt g rfl
          have hxm : (E.map exv)[k]? = some [.bool j, .int .i64 (at_ : Int), .int .i64 (n : Int)] := by rw [List.getElem?_map, hx]; rfl
          have r0 : wr.cell? ⟨g, k * 3, none⟩ = some (.bool j) := jr.at k _ 0 _ hxm rfl
          have r1 : wr.cell? ⟨g, k * 3 + 1, none⟩ = some (.int .i64 (at_ : Int)) := jr.at k _ 1 _ hxm rfl
          have r2 : wr.cell? ⟨g, k * 3 + 2, none⟩ = some (.int .i64 (n : Int)) := jr.at k _ 2 _ hxm rfl
          have HBRR := hd hbr
          have HX := hd hx
          unfold maxLen at hgm
          clear jr hxm hbr hv2 hx
          have q1 : decide ((n : Int) < 1) = false := by rw [decide_eq_false_iff_not]; omega
          cases j with
          | true =>
            have hpf := hjp rfl
            subst hpf
            clear hjp
            have hbn2 : b_ + n ≤ nn := by rw [if_pos rfl] at hbn; omega
            clear hbn
            rcases hpj with rfl | ⟨hk0, y, hy, hyf⟩
            · simp only [Nat.zero_mul, Nat.zero_add] at r0 r1 r2
              go_wp2_with fail
              all_goals refine ⟨⟨0 + 1, at_ + n, b_ + n, true, by omega, by go_num, by go_num, by go_num, by omega, HT2.out, by have := HBS2.out; rw [if_pos rfl] at this; omega, .inr ⟨by omega, _, by rw [Nat.add_sub_cancel]; exact HX.out, rfl⟩, HBRR.out⟩, by simp [intOf]; omega⟩
            · have r3 : wr.cell? ⟨g, (k - 1) * 3, none⟩ = some (.bool false) := by
                rw [← hyf]
                exact (J6.out.keepAll HBRR.out).at (k - 1) _ 0 _ (by rw [List.getElem?_map, hy]; rfl) rfl
              clear hy hyf
              go_wp2_with fail
              all_goals refine ⟨⟨k + 1, at_ + n, b_ + n, true, by omega, by go_num, by go_num, by go_num, by omega, HT2.out, by have := HBS2.out; rw [if_pos rfl] at this; omega, .inr ⟨by omega, _, by rw [Nat.add_sub_cancel]; exact HX.out, rfl⟩, HBRR.out⟩, by simp [intOf]; omega⟩
          | false =>
            clear hjp hbn
            go_wp2_with fail
            all_goals refine ⟨⟨k + 1, at_ + n, b_, false, by omega, by go_num, by go_num, by go_num, by omega, HT2.out, by have := HBS2.out; rw [if_neg (by decide)] at this; omega, .inr ⟨by omega, _, by rw [Nat.add_sub_cancel]; exact HX.out, rfl⟩, HBRR.out⟩, by simp [intOf]; omega⟩
        · obtain rfl : k = E.length := by omega
          have hat2 : at_ = bs.length := by have := HT.out; rw [List.drop_length] at this; exact this
          have hbn2 : b_ = nn := by have := HBS.out; rw [List.drop_length] at this; have h0 : jsum [] = 0 := rfl; omega
          subst hat2 hbn2
          have HJB7 := hd (JK.keepAll (k := .u8) (M := 256) (E := 5) HJB6.out hbr)
          have HJC7 := hd (HJC6.out.below hbr)
          have HBN7 := hd (boxed_below HBN6.out (by omega) hbr)
          have HBL7 := hd (boxed_below HBL6.out (by omega) hbr)
          have HBR7 := hd (boxed_below HBR6.out (by omega) hbr)
          have HKD7 := hd ((hbr.block D (Array.getElem?_eq_some_iff.1 HKD6.out).1).trans HKD6.out)
          have HB7 := hd (HB6.out.trans (hbr.mono HB6.out.size))
          have hs7 := hbr.size
          clear hbr HT HBS hpj hat hb_ HJB6 HJC6 HBN6 HBL6 HBR6 HKD6 HB6 J6
          go_wp2_with fail
          refine Calls.mono (clean_is _ bs wr (jb_isB3 HJB7.out) (by omega)) ?_
          rintro e w8 ⟨u8, rfl, j8, b8⟩
          rw [HCL.out] at j8
          obtain ⟨ya, yc, rfl, hyc⟩ := JK.shape (k := .u8) (M := 256) (E := 5) j8
          have HJD8 := hd (jb_isB3 j8)
          have HJC8 := hd (HJC7.out.below b8)
          have HBN8 := hd (boxed_below HBN7.out (by omega) b8)
          have HBL8 := hd (boxed_below HBL7.out (by omega) b8)
          have HBR8 := hd (boxed_below HBR7.out (by omega) b8)
          have HKD8 := hd ((b8.block D (Array.getElem?_eq_some_iff.1 HKD7.out).1).trans HKD7.out)
          have HB8 := hd (HB7.out.trans (b8.mono HB7.out.size))
          have hs8 := b8.size
          clear b8 j8 HJB7 HJC7 HBN7 HBL7 HBR7 HKD7 HB7
          go_wp2_with fail
          refine Calls.mono (extents_is _ cs w8 HJD8.out (by omega)) ?_
          rintro e w9 ⟨u9, rfl, j9, b9⟩
          obtain ⟨za, zc, rfl, hzc⟩ := j9.shape
          rw [List.length_map, HEC.out] at hzc ⊢
          have HJD9 := hd (HJD8.out.below b9)
          have HJC9 := hd (HJC8.out.below b9)
          have HBN9 := hd (boxed_below HBN8.out (by omega) b9)
          have HBL9 := hd (boxed_below HBL8.out (by omega) b9)
          have HBR9 := hd (boxed_below HBR8.out (by omega) b9)
          have HKD9 := hd ((b9.block D (Array.getElem?_eq_some_iff.1 HKD8.out).1).trans HKD8.out)
          have HB9 := hd (HB8.out.trans (b9.mono HB8.out.size))
          have hs9 := b9.size
          clear b9 j9 HJD8 HJC8 HBN8 HBL8 HBR8 HKD8 HB8
          go_wp2_with fail
          have HL167 := hd (lit_isK .u8 256 w9 #[.int .u8 (167 : Int)] 5 [167] 1 rfl rfl (by simp) (by simp [maxLen]))
          have bA : Hid (Below w9.heap.size w9 (w9.alloc (Obj.cells #[Value.int IntKind.u8 167] 5))) := (Below.refl _ _).alloc (Nat.le_refl _) _
          have HNX := hd (snext_is _ [167] 0 _ HL167.out)
          rw [one_next] at HNX
          refine Calls.mono HNX.out ?_
          rintro e w10 ⟨rfl, b10a⟩
          have b10 := bA.out.trans (b10a.mono bA.out.size)
          have HJD10 := hd (HJD9.out.below b10)
          have HJC10 := hd (HJC9.out.below b10)
          have HBN10 := hd (boxed_below HBN9.out (by omega) b10)
          have HBL10 := hd (boxed_below HBL9.out (by omega) b10)
          have HBR10 := hd (boxed_below HBR9.out (by omega) b10)
          have HKD10 := hd ((b10.block D (Array.getElem?_eq_some_iff.1 HKD9.out).1).trans HKD9.out)
          have HB10 := hd (HB9.out.trans (b10.mono HB9.out.size))
          have HSB : Hid (Calls Try.prog 38 #[.slice ya cs.length yc, .slice ca cs.length cc] w10 fun e w' => e = .returned (.bool true) ∧ w' = w10) := by
            refine (sameBS_is _ _ cs cs w10 HJD10.out HJC10.out).mono ?_
            rintro e w' ⟨rfl, rfl⟩
            exact ⟨by simp, rfl⟩
          have cn := HBN10.out.cell
          have cl := HBL10.out.cell
          have cr := HBR10.out.cell
          have fr := HBR10.out.frozen
          clear b10 b10a bA HL167 HJD9 HJC9 HBN9 HBL9 HBR9 HKD9 HB9 HNX
          go_wp2_with fail
          refine Calls.mono HSB.out ?_
          rintro e w11 ⟨rfl, hw11⟩
          rw [hw11]
          clear hw11 w11
          go_wp2_with fail
          have hKa := (KeepsOthers.setCell w10 ⟨N + 1, 0, none⟩ (.bool true)).same D _ HKD10.out rfl
          have hDN : N + 1 < D := by omega
          have HB10N : Below N w w10 := HN.out.symm ▸ HB10.out
          refine ⟨by simp, .inl ⟨_, _, rfl, run_takeDeferred hKa, ?_⟩⟩
          have hc5 := cell_kept (HBR10.out.set (.bool true)).cell (grownBy_putObj' _ D (.deferred none)) (fun r e => by cases e; exact ⟨_, hKa, rfl⟩)
          have HB11 := HB10N.setCell (p := ⟨N + 1, 0, none⟩) (by show N ≤ N + 1; omega) (.bool true)
          refine ⟨.bool true, ?_, rfl, HB11.trans (belowK_b (n₀ := N) (w := w) (by have := HN.out; omega) _ D _ _ (by have := HN.out; omega) hKa rfl rfl)⟩
          simp [results, Try.f7, go_sem, hc5]
end Vt
end Go.Proofs.Ytlddogigbodilaa
