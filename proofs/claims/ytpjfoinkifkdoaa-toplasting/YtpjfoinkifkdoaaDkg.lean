/-
  New WITH ONE FILE.
-/
import Derived.Test.YtpjfoinkifkdoaaDkc
import Derived.Test.YtpjfoinkifkdoaaDkf
import Derived.Test.YtpjfoinkifkdoaaMr
namespace Go.Proofs.Ytpjfoinkifkdoaa
open Go.RowKit Go.Maps
namespace Dk
open Vt
abbrev TFi : TypeId := 29
def ds1 (c : Nat) (s : ByteArray) (l : List Nat) : Ds := ⟨c, l.length, 0, false, 0, 0, false, [⟨s, l, l.length⟩]⟩
theorem good1 {c : Nat} {s : ByteArray} {l : List Nat} (h : c ≤ 4194304) (hs : isNm s = true) (hl : l.length ≤ c) : Good (ds1 c s l) :=
  ⟨h, by simp [ds1, tot], hl, List.pairwise_singleton _ _, by simp [ds1, hs], by simp [ds1], by simp [ds1], by simp [ds1], by simp [ds1]⟩
set_option maxRecDepth 100000 in
theorem nameless_is (w : World) (s : ByteArray) (ua : Option Addr) (un uc : Nat) : Calls Try.prog 13 #[.agg #[.string s, .slice ua un uc]] w fun e w' => e = .returned (.bool (!isNm s)) ∧ w' = w.alloc (.cells #[.string s, .slice ua un uc] TFi) := by
  have HI := hd (isName_is s (w.alloc (.cells #[.string s, .slice ua un uc] TFi)))
  go_enter Try.func13, Try.ntmps13
  go_wp2_with fail
  refine Calls.mono HI.out ?_
  rintro e w1 ⟨rfl, rfl⟩
  go_wp2_with fail
  go_ret
  exact ⟨rfl, rfl⟩
set_option maxRecDepth 100000 in
theorem idx1 (w : World) (fb : Nat) (s : ByteArray) (ua : Option Addr) (un uc : Nat) (hF : Blk w fb TFi [.string s, .slice ua un uc]) (hs : isNm s = true) : Calls Try.prog 28 #[.slice (some ⟨fb, 0, none⟩) 1 1, .func (.func 13) #[] #[]] w fun e w' => e = .returned (.int .i64 (-1)) ∧ w' = w.alloc (.cells #[.string s, .slice ua un uc] TFi) := by
  have HN := hd (nameless_is w s ua un uc)
  rw [hs] at HN
  have c0 := hF.cell 0 _ rfl
  have c1 := hF.cell 1 _ rfl
  clear hF
  go_enter Try.func28, Try.ntmps28
  go_wp2_with fail
  refine wp_loop_rounds 2 ?_
  rw [rounds_succ]
  go_wp2_with fail
  refine Calls.mono HN.out ?_
  rintro e w1 ⟨rfl, rfl⟩
  go_wp2_with fail
  rw [rounds_succ]
  go_wp2_with fail
  go_ret
  exact ⟨rfl, rfl⟩
set_option maxRecDepth 100000 in
theorem has1 (w : World) (fb : Nat) (s : ByteArray) (ua : Option Addr) (un uc : Nat) (hF : Blk w fb TFi [.string s, .slice ua un uc]) (hs : isNm s = true) : Calls Try.prog 15 #[.slice (some ⟨fb, 0, none⟩) 1 1, .func (.func 13) #[] #[]] w fun e w' => e = .returned (.bool false) ∧ w' = w.alloc (.cells #[.string s, .slice ua un uc] TFi) := by
  have HX := hd (idx1 w fb s ua un uc hF hs)
  clear hF
  go_enter Try.func15, Try.ntmps15
  go_wp2_with fail
  refine Calls.mono HX.out ?_
  rintro e w1 ⟨rfl, rfl⟩
  go_wp2_with fail
  go_ret
  exact ⟨rfl, rfl⟩
set_option maxRecDepth 100000 in
set_option maxHeartbeats 8000000 in
theorem new1_is (w : World) (c fb : Nat) (sn : ByteArray) (ua : Option Addr) (uc : Nat) (l : List Nat) (hF : Blk w fb TFi [.string sn, .slice ua l.length uc]) (hI : IsB w (.slice ua l.length uc) l) (hs : isNm sn = true) (hc : c ≤ 4194304) (hl : l.length ≤ c) :
    Calls Try.prog 4 #[.int .i64 (c : Int), .slice (some ⟨fb, 0, none⟩) 1 1] w fun e w' => ∃ d O, e = .returned (.tuple #[.pointer (some ⟨d, 0, none⟩), .int .i64 0]) ∧ DK w' d O (ds1 c sn l) ∧ Tr (fun _ => False) w w' ∧ ∀ b, O b → w.heap.size ≤ b := by
  have hmx : Try.prog.follows .mixedOrders = true := by kernel_rfl
  have hmm := @run_makeMap Try.prog
  have HX := hd (has1 w fb sn ua l.length uc hF hs)
  have HF0 := hd hF
  have HI0 := hd hI
  obtain ⟨w1, hw1⟩ : ∃ w1, w1 = w.alloc (.cells #[.string sn, .slice ua l.length uc] TFi) := ⟨_, rfl⟩
  have hs1 : w1.heap.size = w.heap.size + 1 := by rw [hw1, alloc_size]
  -- the map's block w1.heap.size, the disk's behind it, the loop's own copy behind that
  obtain ⟨W, hW⟩ : ∃ W, W = ((w1.alloc (.map #[] 0)).alloc (.cells #[.int .i64 (c : Int), .int .i64 0, .map (some w1.heap.size), .int .i64 0, .bool false, .int .i64 0, .int .i64 0, .bool false] TD)).alloc (.cells #[.string sn, .slice ua l.length uc] TFi) := ⟨_, rfl⟩
  have hFw : Blk w1 fb TFi [.string sn, .slice ua l.length uc] := by rw [hw1]; exact hF.alloc _
  have f0 := hFw.cell 0 _ rfl
  have f1 := hFw.cell 1 _ rfl
  have hflt := hFw.lt
  have hfn1 : fb ≠ w1.heap.size := by omega
  have hfn2 : fb ≠ w1.heap.size + 1 := by omega
  have HW := hd hW
  have HW1 := hd hw1
  have HS1 := hd hs1
  clear hw1 hs1 hW
  go_enter Try.func4, Try.ntmps4
  go_wp2_with fail
  refine Calls.mono HX.out ?_
  rintro e w2 ⟨rfl, rfl⟩
  rw [← HW1.out]
  go_wp2_with fail
  refine wp_loop_rounds 2 ?_
  rw [rounds_succ]
  go_wp2_with fail
  rw [← HW.out]
  have hX : Blk W (w1.heap.size + 1 + 1) TFi [.string sn, .slice ua l.length uc] := by
    rw [HW.out]
    have := Blk.new ((w1.alloc (.map #[] 0)).alloc (.cells #[.int .i64 (c : Int), .int .i64 0, .map (some w1.heap.size), .int .i64 0, .bool false, .int .i64 0, .int .i64 0, .bool false] TD)) TFi [.string sn, .slice ua l.length uc]
    rwa [alloc_size, alloc_size] at this
  have hD : Blk W (w1.heap.size + 1) TD (cells (ds0 c) w1.heap.size) := by
    rw [HW.out]
    have := Blk.new (w1.alloc (.map #[] 0)) TD (cells (ds0 c) w1.heap.size)
    rw [alloc_size] at this
    exact this.alloc _
  have hM : MP W w1.heap.size [] := by
    have h1 : MP (w1.alloc (.map #[] 0)) w1.heap.size [] := ⟨.map [], World.ownsMap_made w1 Try.prog TS ptrElem, fun s _ => rfl, fun s _ => rfl, rfl⟩
    refine MP.same h1 ?_
    rw [HW.out]
    exact ((MapKept.heap_alloc _ _).2 _ (by rw [alloc_size, alloc_size]; omega)).trans ((MapKept.heap_alloc _ _).2 _ (by rw [alloc_size]; omega))
  have hWs : W.heap.size = w1.heap.size + 3 := by rw [HW.out, alloc_size, alloc_size, alloc_size]
  have htW : Tr (fun _ => False) w W := by
    rw [HW.out, HW1.out]
    exact (((Tr.alloc (fun _ => False) w _).trans (Tr.alloc (fun _ => False) _ _) fun x q => .inl q).trans (Tr.alloc (fun _ => False) _ _) fun x q => .inl q).trans (Tr.alloc (fun _ => False) _ _) fun x q => .inl q
  have hFW : Blk W fb TFi [.string sn, .slice ua l.length uc] := by rw [HW.out]; exact ((hFw.alloc _).alloc _).alloc _
  have hIW : IsB W (.slice ua l.length uc) l := hI.below (htW.below (fun k q => q.elim) (Nat.le_refl _))
  have q0 : ∀ n, (W.drewN n).cell? ⟨w1.heap.size + 1, 2, none⟩ = some (.map (some w1.heap.size)) := fun n => hD.cell 2 _ rfl
  have q1 : ∀ n, (W.drewN n).cell? ⟨w1.heap.size + 1 + 1, 0, none⟩ = some (.string sn) := fun n => hX.cell 0 _ rfl
  have q2 : ∀ n, (Instr.lookup TM (.map (some w1.heap.size)) (.string sn) false).run Try.prog (W.drewN n) = .ok (.pointer none) (W.drewN n) := fun n => MP.look (w := W.drewN n) hM (isNm_len hs)
  have HX' := hd hX
  have HD := hd hD
  have HM := hd hM
  have HWs := hd hWs
  have HTW := hd htW
  have HFW := hd hFW
  have HIW := hd hIW
  clear hX hD hM hWs htW hFW hIW hFw f0 f1 HX hF hI hmm
  go_quiet (fail)
  obtain ⟨W2, hW2⟩ : ∃ W2, W2 = W.drewN nq := ⟨_, rfl⟩
  rw [← hW2]
  have HW2 := hd hW2
  clear hW2 q0 q1 q2
  have hX2 : Blk W2 (w1.heap.size + 1 + 1) TFi [.string sn, .slice ua l.length uc] := by rw [HW2.out]; exact HX'.out
  have hD2 : Blk W2 (w1.heap.size + 1) TD (cells (ds0 c) w1.heap.size) := by rw [HW2.out]; exact HD.out
  have hM2 : MP W2 w1.heap.size [] := by rw [HW2.out]; exact MP.same (w := W) HM.out rfl
  have hs2 : W2.heap.size = w1.heap.size + 3 := by rw [HW2.out]; exact HWs.out
  have hMa : MP (W2.alloc (.cells #[.slice none 0 0, .int .i64 (l.length : Int)] TF)).drew w1.heap.size [] := MP.same hM2 ((MapKept.heap_alloc W2 _).2 _ (by omega))
  obtain ⟨w3, hr3, hM3, ht3⟩ := hMa.store ⟨sn, W2.heap.size, .slice none 0 0, [], l.length⟩ (isNm_len hs) rfl (by decide)
  obtain ⟨SS, hS0, hS1, hS2⟩ : ∃ SS : Nat → World, SS 0 = W2.drew ∧ SS 1 = (W2.alloc (.cells #[.slice none 0 0, .int .i64 (l.length : Int)] TF)).drew ∧ SS 2 = w3 := ⟨fun s => match s with | 0 => W2.drew | 1 => (W2.alloc (.cells #[.slice none 0 0, .int .i64 (l.length : Int)] TF)).drew | _ => w3, rfl, rfl, rfl⟩
  have CC : ∀ j, j ≤ 1 → (SS j).cell? ⟨w1.heap.size + 1, 2, none⟩ = some (.map (some w1.heap.size)) ∧ (SS j).cell? ⟨w1.heap.size + 1 + 1, 0, none⟩ = some (.string sn) ∧ (SS j).cell? ⟨w1.heap.size + 1 + 1, 1, none⟩ = some (.slice ua l.length uc) := by
    intro j hj
    obtain rfl | rfl : j = 0 ∨ j = 1 := by omega
    · rw [hS0]; exact ⟨hD2.cell 2 _ rfl, hX2.cell 0 _ rfl, hX2.cell 1 _ rfl⟩
    · rw [hS1]; exact ⟨(hD2.alloc _).cell 2 _ rfl, (hX2.alloc _).cell 0 _ rfl, (hX2.alloc _).cell 1 _ rfl⟩
  have k3 : ∀ X T cs, Blk W2 X T cs → Blk w3 X T cs := fun X T cs hX => Blk.grown (W := (W2.alloc (.cells #[.slice none 0 0, .int .i64 (l.length : Int)] TF)).drew) (hX.alloc _) ht3.grown (fun q => by
    injection q with q
    exact hM2.notBlk hX q)
  have hX3 := k3 _ _ _ hX2
  have hD3 := k3 _ _ _ hD2
  have hN3 : Blk w3 (w1.heap.size + 3) TF [.slice none 0 0, .int .i64 (l.length : Int)] := by
    have := Blk.new W2 TF [.slice none 0 0, .int .i64 (l.length : Int)]
    rw [hs2] at this
    exact Blk.grown (W := (W2.alloc (.cells #[.slice none 0 0, .int .i64 (l.length : Int)] TF)).drew) this ht3.grown (fun q => by injection q with q; omega)
  have htw3 : Tr (fun b => w.heap.size ≤ b) w w3 := by
    have h1 : Tr (fun b => w.heap.size ≤ b) w W2 := by rw [HW2.out]; exact (HTW.out.mono fun x q _ => q.elim).trans (Tr.drewN (fun b => w.heap.size ≤ b) W _) fun x q => .inl q
    refine (h1.trans ((Tr.alloc (fun b => w.heap.size ≤ b) W2 _).trans (Tr.drew (fun b => w.heap.size ≤ b) _) fun x q => .inl q) fun x q => .inl q).trans (Tr.turned (O := fun b => w.heap.size ≤ b) ht3 ?_) fun x q => .inl q
    have := HS1.out
    omega
  have HS0 := hd hS0
  have HS1' := hd hS1
  have HS2 := hd hS2
  have Hs2 := hd hs2
  have HX3 := hd hX3
  have HD3 := hd hD3
  have HN3 := hd hN3
  have HM3 := hd hM3
  have HT3 := hd htw3
  rw [hs2] at hr3
  clear hS0 hS1 hS2 hX2 hD2 hM2 hs2 hMa ht3 hM3 k3 hX3 hD3 hN3 htw3
  go_wp2_with fail
  --REGION a
  refine region_chain (fun i => match i with
    | 0 => Value.pointer (some { block := w1.heap.size + 1, off := 0 })
    | 1 => Value.pointer (some { block := w1.heap.size + 1, off := 0 })
    | 2 => .pointer (some ⟨w1.heap.size + 1, 2, none⟩)
    | 3 => .map (some w1.heap.size)
    | 4 => .pointer (some ⟨w1.heap.size + 1 + 1, 0, none⟩)
    | 5 => .string sn
    | 6 => .pointer (some ⟨w1.heap.size + 1 + 1, 1, none⟩)
    | 7 => .slice ua l.length uc
    | 8 => .int .i64 (l.length : Int)
    | 9 => .agg #[.slice none 0 0, .int .i64 (l.length : Int)]
    | 10 => .pointer (some ⟨w1.heap.size + 3, 0, none⟩)
    | 11 => undef
    | _ => undef) [10, 11] SS hmx (by kernel_rfl) (by kernel_rfl) (by kernel_rfl) (by kernel_rfl) HS0.out ?_ ?_ (by decide)
  · intro i o ho s a hsr hlo hhi hout haf hun
    have ee7 := getq (show a.tmps.getD 7 undef = Value.pointer (some { block := w1.heap.size + 1, off := 0 }) from hout 7 (notDst_spec (by kernel_rfl)))
    have ee9 := getq (show a.tmps.getD 9 undef = Value.pointer (some { block := w1.heap.size + 1 + 1, off := 0 }) from hout 9 (notDst_spec (by kernel_rfl)))
    clear hout
    match i, ho, hlo, hhi, haf, hun with
    | 0, ho, hlo, hhi, haf, hun =>
      obtain rfl := Option.some.inj ho
      refine step_c (w' := SS s) rfl fun K hK => ?_
      simp only [List.getElem_toArray, List.getElem_cons_zero] at hK ⊢
      clear haf hlo hhi hun ho hsr
      go_simp
      exact hK
    | 1, ho, hlo, hhi, haf, hun =>
      obtain rfl := Option.some.inj ho
      have f0 := getq (show a.tmps.getD 46 undef = Value.pointer (some { block := w1.heap.size + 1, off := 0 }) from haf ⟨0, .data⟩ (by simp) rfl 46 rfl)
      refine step_c (w' := SS s) rfl fun K hK => ?_
      simp only [List.getElem_toArray, List.getElem_cons_succ, List.getElem_cons_zero] at hK ⊢
      clear haf hlo hhi hun ho hsr
      go_simp
      exact hK
    | 2, ho, hlo, hhi, haf, hun =>
      obtain rfl := Option.some.inj ho
      have f1 := getq (show a.tmps.getD 47 undef = Value.pointer (some { block := w1.heap.size + 1, off := 0 }) from haf ⟨1, .data⟩ (by simp) rfl 47 rfl)
      refine step_c (w' := SS s) rfl fun K hK => ?_
      simp only [List.getElem_toArray, List.getElem_cons_succ, List.getElem_cons_zero] at hK ⊢
      clear haf hlo hhi hun ho hsr
      go_simp
      exact hK
    | 3, ho, hlo, hhi, haf, hun =>
      obtain rfl := Option.some.inj ho
      have f2 := getq (show a.tmps.getD 48 undef = .pointer (some ⟨w1.heap.size + 1, 2, none⟩) from haf ⟨2, .data⟩ (by simp) rfl 48 rfl)
      have hst : s = 0 ∨ s = 1 := by have := hhi 1 (by decide) (.inr (by kernel_rfl)); simp at hsr; omega
      refine step_c (w' := SS s) rfl fun K hK => ?_
      simp only [List.getElem_toArray, List.getElem_cons_succ, List.getElem_cons_zero] at hK ⊢
      clear haf hlo hhi hun ho hsr
      have hc := (CC s (by omega)).1
      go_simp
      exact hK
    | 4, ho, hlo, hhi, haf, hun =>
      obtain rfl := Option.some.inj ho
      refine step_c (w' := SS s) rfl fun K hK => ?_
      simp only [List.getElem_toArray, List.getElem_cons_succ, List.getElem_cons_zero] at hK ⊢
      clear haf hlo hhi hun ho hsr
      go_simp
      exact hK
    | 5, ho, hlo, hhi, haf, hun =>
      obtain rfl := Option.some.inj ho
      have f4 := getq (show a.tmps.getD 50 undef = .pointer (some ⟨w1.heap.size + 1 + 1, 0, none⟩) from haf ⟨4, .data⟩ (by simp) rfl 50 rfl)
      have hst : s = 0 ∨ s = 1 := by have := hhi 1 (by decide) (.inr (by kernel_rfl)); simp at hsr; omega
      refine step_c (w' := SS s) rfl fun K hK => ?_
      simp only [List.getElem_toArray, List.getElem_cons_succ, List.getElem_cons_zero] at hK ⊢
      clear haf hlo hhi hun ho hsr
      have hc := (CC s (by omega)).2.1
      go_simp
      exact hK
    | 6, ho, hlo, hhi, haf, hun =>
      obtain rfl := Option.some.inj ho
      obtain rfl : s = 0 := by have := hhi 0 (by decide) (.inr (by kernel_rfl)); simp at hsr; omega
      refine step_c (w' := SS 0) rfl fun K hK => ?_
      simp only [List.getElem_toArray, List.getElem_cons_succ, List.getElem_cons_zero] at hK ⊢
      clear haf hlo hhi hun ho hsr
      go_simp
      exact hK
    | 7, ho, hlo, hhi, haf, hun =>
      obtain rfl := Option.some.inj ho
      have f6 := getq (show a.tmps.getD 52 undef = .pointer (some ⟨w1.heap.size + 1 + 1, 1, none⟩) from haf ⟨6, .data⟩ (by simp) rfl 52 rfl)
      obtain rfl : s = 0 := by have := hhi 0 (by decide) (.inr (by kernel_rfl)); simp at hsr; omega
      refine step_c (w' := SS 0) rfl fun K hK => ?_
      simp only [List.getElem_toArray, List.getElem_cons_succ, List.getElem_cons_zero] at hK ⊢
      clear haf hlo hhi hun ho hsr
      have hc := (CC 0 (by omega)).2.2
      go_simp
      exact hK
    | 8, ho, hlo, hhi, haf, hun =>
      obtain rfl := Option.some.inj ho
      have f7 := getq (show a.tmps.getD 53 undef = .slice ua l.length uc from haf ⟨7, .data⟩ (by simp) rfl 53 rfl)
      obtain rfl : s = 0 := by have := hhi 0 (by decide) (.inr (by kernel_rfl)); simp at hsr; omega
      refine step_c (w' := SS 0) rfl fun K hK => ?_
      simp only [List.getElem_toArray, List.getElem_cons_succ, List.getElem_cons_zero] at hK ⊢
      clear haf hlo hhi hun ho hsr
      go_simp
      exact hK
    | 9, ho, hlo, hhi, haf, hun =>
      obtain rfl := Option.some.inj ho
      have f8 := getq (show a.tmps.getD 54 undef = .int .i64 (l.length : Int) from haf ⟨8, .data⟩ (by simp) rfl 54 rfl)
      obtain rfl : s = 0 := by have := hhi 0 (by decide) (.inr (by kernel_rfl)); simp at hsr; omega
      refine step_c (w' := SS 0) rfl fun K hK => ?_
      simp only [List.getElem_toArray, List.getElem_cons_succ, List.getElem_cons_zero] at hK ⊢
      clear haf hlo hhi hun ho hsr
      go_simp
      exact hK
    | 10, ho, hlo, hhi, haf, hun =>
      obtain rfl := Option.some.inj ho
      have f9 := getq (show a.tmps.getD 55 undef = .agg #[.slice none 0 0, .int .i64 (l.length : Int)] from haf ⟨9, .data⟩ (by simp) rfl 55 rfl)
      obtain rfl : s = 0 := by have := hhi 0 (by decide) (.inl (by kernel_rfl)); omega
      refine step_c (w' := SS 1) rfl fun K hK => ?_
      simp only [List.getElem_toArray, List.getElem_cons_succ, List.getElem_cons_zero] at hK ⊢
      clear haf hlo hhi hun ho hsr
      rw [HS1'.out] at hK
      rw [HS0.out]
      rw [← Hs2.out] at hK
      go_simp
      exact hK
    | 11, ho, hlo, hhi, haf, hun =>
      obtain rfl := Option.some.inj ho
      have f3 := getq (show a.tmps.getD 49 undef = .map (some w1.heap.size) from haf ⟨3, .data⟩ (by simp) rfl 49 rfl)
      have f5 := getq (show a.tmps.getD 51 undef = .string sn from haf ⟨5, .data⟩ (by simp) rfl 51 rfl)
      have f10 := getq (show a.tmps.getD 56 undef = .pointer (some ⟨w1.heap.size + 3, 0, none⟩) from haf ⟨10, .data⟩ (by simp) rfl 56 rfl)
      obtain rfl : s = 1 := by have := hlo 0 (by decide) (by kernel_rfl); have := hhi 1 (by decide) (.inl (by kernel_rfl)); omega
      refine step_c (w' := SS 2) rfl fun K hK => ?_
      simp only [List.getElem_toArray, List.getElem_cons_succ, List.getElem_cons_zero] at hK ⊢
      clear haf hlo hhi hun ho hsr
      rw [HS2.out] at hK
      rw [HS1'.out]
      go_simp
      exact hK
    | n + 12, ho, _, _, _, _ => simp at ho
  · intro aa hdf hsz hout hval
    have hat : aa.tmps = #[Value.int IntKind.i64 (c : Int), Value.slice (some { block := fb, off := 0 }) 1 1, undef, undef, Value.pointer none, Value.int IntKind.i64 0, Value.func (Fn.func 13) #[] #[], Value.pointer (some { block := w1.heap.size + 1, off := 0 }), undef, Value.pointer (some { block := w1.heap.size + 1 + 1, off := 0 }), undef, undef, Value.int IntKind.i64 (c : Int), Value.bool (decide ((c : Int) < 0)), Value.bool (decide ((c : Int) < 0)), Value.int IntKind.i64 (c : Int), Value.bool (decide (4194304 < (c : Int))), Value.bool (decide ((c : Int) < 0) || decide (4194304 < (c : Int))), Value.bool (decide ((c : Int) < 0) || decide (4194304 < (c : Int))), Value.slice (some { block := fb, off := 0 }) 1 1, Value.int IntKind.i64 1, Value.bool false, Value.bool (decide ((c : Int) < 0) || decide (4194304 < (c : Int))), Value.bool (decide ((c : Int) < 0) || decide (4194304 < (c : Int))), Value.slice (some { block := fb, off := 0 }) 1 1, Value.func (Fn.func 13) #[] #[], Value.bool false, Value.bool (decide ((c : Int) < 0) || decide (4194304 < (c : Int))), Value.int IntKind.i64 (c : Int), Value.map (some w1.heap.size), Value.agg #[Value.int IntKind.i64 (c : Int), Value.int IntKind.i64 0, Value.map (some w1.heap.size), Value.int IntKind.i64 0, Value.bool false, Value.int IntKind.i64 0, Value.int IntKind.i64 0, Value.bool false], Value.pointer (some { block := w1.heap.size + 1, off := 0 }), Value.slice (some { block := fb, off := 0 }) 1 1, Value.int IntKind.i64 1, Value.int IntKind.i64 0, Value.bool true, Value.pointer (some { block := fb, off := 0 }), Value.agg #[Value.string sn, Value.slice ua l.length uc], Value.pointer (some { block := w1.heap.size + 1, off := 0 }), Value.pointer (some { block := w1.heap.size + 1, off := 0 }), Value.pointer (some { block := w1.heap.size + 1, off := 2 }), Value.map (some w1.heap.size), Value.pointer (some { block := w1.heap.size + 1 + 1, off := 0 }), Value.string sn, Value.pointer none, Value.bool false, Value.pointer (some { block := w1.heap.size + 1, off := 0 }), Value.pointer (some { block := w1.heap.size + 1, off := 0 }), .pointer (some ⟨w1.heap.size + 1, 2, none⟩), .map (some w1.heap.size), .pointer (some ⟨w1.heap.size + 1 + 1, 0, none⟩), .string sn, .pointer (some ⟨w1.heap.size + 1 + 1, 1, none⟩), .slice ua l.length uc, .int .i64 (l.length : Int), .agg #[.slice none 0 0, .int .i64 (l.length : Int)], .pointer (some ⟨w1.heap.size + 3, 0, none⟩), undef, undef, undef, undef, undef, undef, undef, undef, undef, undef, undef, undef, undef, undef, undef, undef, undef, undef, undef, undef, undef, undef, undef, undef, undef, undef, undef, undef, undef, undef, undef, undef, undef, undef, undef, undef, undef, undef, undef, undef] := by
      refine arr_one (hsz.trans rfl) fun kk hkk => ?_
      match kk, hkk with
      | 0, _ => exact hout 0 (notDst_spec (by kernel_rfl))
      | 1, _ => exact hout 1 (notDst_spec (by kernel_rfl))
      | 2, _ => exact hout 2 (notDst_spec (by kernel_rfl))
      | 3, _ => exact hout 3 (notDst_spec (by kernel_rfl))
      | 4, _ => exact hout 4 (notDst_spec (by kernel_rfl))
      | 5, _ => exact hout 5 (notDst_spec (by kernel_rfl))
      | 6, _ => exact hout 6 (notDst_spec (by kernel_rfl))
      | 7, _ => exact hout 7 (notDst_spec (by kernel_rfl))
      | 8, _ => exact hout 8 (notDst_spec (by kernel_rfl))
      | 9, _ => exact hout 9 (notDst_spec (by kernel_rfl))
      | 10, _ => exact hout 10 (notDst_spec (by kernel_rfl))
      | 11, _ => exact hout 11 (notDst_spec (by kernel_rfl))
      | 12, _ => exact hout 12 (notDst_spec (by kernel_rfl))
      | 13, _ => exact hout 13 (notDst_spec (by kernel_rfl))
      | 14, _ => exact hout 14 (notDst_spec (by kernel_rfl))
      | 15, _ => exact hout 15 (notDst_spec (by kernel_rfl))
      | 16, _ => exact hout 16 (notDst_spec (by kernel_rfl))
      | 17, _ => exact hout 17 (notDst_spec (by kernel_rfl))
      | 18, _ => exact hout 18 (notDst_spec (by kernel_rfl))
      | 19, _ => exact hout 19 (notDst_spec (by kernel_rfl))
      | 20, _ => exact hout 20 (notDst_spec (by kernel_rfl))
      | 21, _ => exact hout 21 (notDst_spec (by kernel_rfl))
      | 22, _ => exact hout 22 (notDst_spec (by kernel_rfl))
      | 23, _ => exact hout 23 (notDst_spec (by kernel_rfl))
      | 24, _ => exact hout 24 (notDst_spec (by kernel_rfl))
      | 25, _ => exact hout 25 (notDst_spec (by kernel_rfl))
      | 26, _ => exact hout 26 (notDst_spec (by kernel_rfl))
      | 27, _ => exact hout 27 (notDst_spec (by kernel_rfl))
      | 28, _ => exact hout 28 (notDst_spec (by kernel_rfl))
      | 29, _ => exact hout 29 (notDst_spec (by kernel_rfl))
      | 30, _ => exact hout 30 (notDst_spec (by kernel_rfl))
      | 31, _ => exact hout 31 (notDst_spec (by kernel_rfl))
      | 32, _ => exact hout 32 (notDst_spec (by kernel_rfl))
      | 33, _ => exact hout 33 (notDst_spec (by kernel_rfl))
      | 34, _ => exact hout 34 (notDst_spec (by kernel_rfl))
      | 35, _ => exact hout 35 (notDst_spec (by kernel_rfl))
      | 36, _ => exact hout 36 (notDst_spec (by kernel_rfl))
      | 37, _ => exact hout 37 (notDst_spec (by kernel_rfl))
      | 38, _ => exact hout 38 (notDst_spec (by kernel_rfl))
      | 39, _ => exact hout 39 (notDst_spec (by kernel_rfl))
      | 40, _ => exact hout 40 (notDst_spec (by kernel_rfl))
      | 41, _ => exact hout 41 (notDst_spec (by kernel_rfl))
      | 42, _ => exact hout 42 (notDst_spec (by kernel_rfl))
      | 43, _ => exact hout 43 (notDst_spec (by kernel_rfl))
      | 44, _ => exact hout 44 (notDst_spec (by kernel_rfl))
      | 45, _ => exact hout 45 (notDst_spec (by kernel_rfl))
      | 46, _ => exact hval 0 46 (by decide) rfl
      | 47, _ => exact hval 1 47 (by decide) rfl
      | 48, _ => exact hval 2 48 (by decide) rfl
      | 49, _ => exact hval 3 49 (by decide) rfl
      | 50, _ => exact hval 4 50 (by decide) rfl
      | 51, _ => exact hval 5 51 (by decide) rfl
      | 52, _ => exact hval 6 52 (by decide) rfl
      | 53, _ => exact hval 7 53 (by decide) rfl
      | 54, _ => exact hval 8 54 (by decide) rfl
      | 55, _ => exact hval 9 55 (by decide) rfl
      | 56, _ => exact hval 10 56 (by decide) rfl
      | 57, _ => exact hout 57 (notDst_spec (by kernel_rfl))
      | 58, _ => exact hout 58 (notDst_spec (by kernel_rfl))
      | 59, _ => exact hout 59 (notDst_spec (by kernel_rfl))
      | 60, _ => exact hout 60 (notDst_spec (by kernel_rfl))
      | 61, _ => exact hout 61 (notDst_spec (by kernel_rfl))
      | 62, _ => exact hout 62 (notDst_spec (by kernel_rfl))
      | 63, _ => exact hout 63 (notDst_spec (by kernel_rfl))
      | 64, _ => exact hout 64 (notDst_spec (by kernel_rfl))
      | 65, _ => exact hout 65 (notDst_spec (by kernel_rfl))
      | 66, _ => exact hout 66 (notDst_spec (by kernel_rfl))
      | 67, _ => exact hout 67 (notDst_spec (by kernel_rfl))
      | 68, _ => exact hout 68 (notDst_spec (by kernel_rfl))
      | 69, _ => exact hout 69 (notDst_spec (by kernel_rfl))
      | 70, _ => exact hout 70 (notDst_spec (by kernel_rfl))
      | 71, _ => exact hout 71 (notDst_spec (by kernel_rfl))
      | 72, _ => exact hout 72 (notDst_spec (by kernel_rfl))
      | 73, _ => exact hout 73 (notDst_spec (by kernel_rfl))
      | 74, _ => exact hout 74 (notDst_spec (by kernel_rfl))
      | 75, _ => exact hout 75 (notDst_spec (by kernel_rfl))
      | 76, _ => exact hout 76 (notDst_spec (by kernel_rfl))
      | 77, _ => exact hout 77 (notDst_spec (by kernel_rfl))
      | 78, _ => exact hout 78 (notDst_spec (by kernel_rfl))
      | 79, _ => exact hout 79 (notDst_spec (by kernel_rfl))
      | 80, _ => exact hout 80 (notDst_spec (by kernel_rfl))
      | 81, _ => exact hout 81 (notDst_spec (by kernel_rfl))
      | 82, _ => exact hout 82 (notDst_spec (by kernel_rfl))
      | 83, _ => exact hout 83 (notDst_spec (by kernel_rfl))
      | 84, _ => exact hout 84 (notDst_spec (by kernel_rfl))
      | 85, _ => exact hout 85 (notDst_spec (by kernel_rfl))
      | 86, _ => exact hout 86 (notDst_spec (by kernel_rfl))
      | 87, _ => exact hout 87 (notDst_spec (by kernel_rfl))
      | 88, _ => exact hout 88 (notDst_spec (by kernel_rfl))
      | 89, _ => exact hout 89 (notDst_spec (by kernel_rfl))
      | 90, _ => exact hout 90 (notDst_spec (by kernel_rfl))
      | 91, _ => exact hout 91 (notDst_spec (by kernel_rfl))
      | 92, _ => exact hout 92 (notDst_spec (by kernel_rfl))
      | 93, _ => exact hout 93 (notDst_spec (by kernel_rfl))
      | 94, _ => exact hout 94 (notDst_spec (by kernel_rfl))
      | 95, _ => exact hout 95 (notDst_spec (by kernel_rfl))
      | 96, _ => exact hout 96 (notDst_spec (by kernel_rfl))
      | n + 97, h => exact absurd h (by simp)
    obtain ⟨tt, dd⟩ := aa
    simp only at hat hdf
    subst hat hdf
    clear hsz hout hval
    rw [show SS [10, 11].length = w3 from HS2.out]
    obtain ⟨TT, hT0, hT1⟩ : ∃ TT : Nat → World, TT 0 = w3.drew ∧ TT 1 = (TT 0).setCell ⟨w1.heap.size + 1, 1, none⟩ (.int .i64 (l.length : Int)) := ⟨fun s => match s with | 0 => w3.drew | _ => w3.drew.setCell ⟨w1.heap.size + 1, 1, none⟩ (.int .i64 (l.length : Int)), rfl, rfl⟩
    have T1 : (TT 0).cell? ⟨w1.heap.size + 1, 1, none⟩ = some (.int .i64 0) := by rw [hT0]; exact HD3.out.cell 1 _ rfl
    have G1 : (TT 0).frozen? ⟨w1.heap.size + 1, 1, none⟩ = false := by rw [hT0]; exact HD3.out.frozen 1
    have T2 : (TT 0).cell? ⟨w1.heap.size + 1 + 1, 1, none⟩ = some (.slice ua l.length uc) := by rw [hT0]; exact HX3.out.cell 1 _ rfl
    obtain ⟨w4, hw4⟩ : ∃ w4, TT 1 = w4 := ⟨_, rfl⟩
    have hw4e : w4 = w3.drew.setCell ⟨w1.heap.size + 1, 1, none⟩ (.int .i64 (l.length : Int)) := by rw [← hw4, hT1, hT0]
    have ht4 : Tr (fun b => b = w1.heap.size + 1) w3 w4 := by rw [hw4e]; exact (Tr.drew (fun b => b = w1.heap.size + 1) w3).trans (Tr.set (O := fun b => b = w1.heap.size + 1) (p := ⟨w1.heap.size + 1, 1, none⟩) rfl _) fun x q => .inl q
    have hD4 : Blk w4 (w1.heap.size + 1) TD (cells (ds1 c sn l) w1.heap.size) := by rw [hw4e]; exact Blk.set (W := w3.drew) HD3.out _
    have hN4 : Blk w4 (w1.heap.size + 3) TF [.slice none 0 0, .int .i64 (l.length : Int)] := (ht4.block _ HN3.out.lt (by omega)).trans HN3.out
    have hM4 : MP w4 w1.heap.size [⟨sn, w1.heap.size + 3, .slice none 0 0, [], l.length⟩] := by
      have := HM3.out
      rw [Hs2.out] at this
      exact MP.same this (ht4.block _ this.lt (by omega))
    have htw4 : Tr (fun b => w.heap.size ≤ b) w w4 := HT3.out.trans ht4 fun x q => .inl (by rw [q, HS1.out]; omega)
    have hF4 : Blk w4 fb TFi [.string sn, .slice ua l.length uc] := by
      have h1 : fb < w.heap.size ∨ fb = w.heap.size := by have := HS1.out; omega
      rcases h1 with h1 | h1
      · exact (htw4.block fb h1 (by omega)).trans HF0.out
      · exact absurd h1 (by have := HF0.out.lt; omega)
    have hI4 : IsB w4 (.slice ua l.length uc) l := HI0.out.below (htw4.below (fun k q => q) (Nat.le_refl _))
    have v0 : ∀ n, (w4.drewN n).cell? ⟨w1.heap.size + 1, 0, none⟩ = some (.int .i64 (c : Int)) := fun n => hD4.cell 0 _ rfl
    have v1 : ∀ n, (w4.drewN n).cell? ⟨w1.heap.size + 1, 1, none⟩ = some (.int .i64 (l.length : Int)) := fun n => hD4.cell 1 _ rfl
    have HWRL : Hid (IntKind.i64.wrap (l.length : Int) = (l.length : Int)) := by show IntKind.i64.wrap _ = _; rw [IntKind.wrap_i64]; omega
    have HT0 := hd hT0
    have HT1 := hd hT1
    have HW4 := hd hw4
    have HD4 := hd hD4
    have HN4 := hd hN4
    have HM4 := hd hM4
    have HTW4 := hd htw4
    have HF4 := hd hF4
    have HI4 := hd hI4
    clear hT0 hT1 hw4 hw4e ht4 hD4 hN4 hM4 htw4 hF4 hI4 CC hr3
    go_wp2_with fail
    --REGION b
    refine region_chain (fun i => match i with
      | 0 => Value.pointer (some { block := w1.heap.size + 1, off := 0 })
      | 1 => Value.pointer (some { block := w1.heap.size + 1, off := 0 })
      | 2 => .pointer (some ⟨w1.heap.size + 1, 1, none⟩)
      | 3 => .int .i64 0
      | 4 => .pointer (some ⟨w1.heap.size + 1 + 1, 1, none⟩)
      | 5 => .slice ua l.length uc
      | 6 => .int .i64 (l.length : Int)
      | 7 => .int .i64 (l.length : Int)
      | 8 => Value.pointer (some { block := w1.heap.size + 1, off := 0 })
      | 9 => .pointer (some ⟨w1.heap.size + 1, 1, none⟩)
      | 10 => undef
      | _ => undef) [10] TT hmx (by kernel_rfl) (by kernel_rfl) (by kernel_rfl) (by kernel_rfl) HT0.out ?_ ?_ (by decide)
    · intro i o ho s a hsr hlo hhi hout haf hun
      have ee7 := getq (show a.tmps.getD 7 undef = Value.pointer (some { block := w1.heap.size + 1, off := 0 }) from hout 7 (notDst_spec (by kernel_rfl)))
      have ee9 := getq (show a.tmps.getD 9 undef = Value.pointer (some { block := w1.heap.size + 1 + 1, off := 0 }) from hout 9 (notDst_spec (by kernel_rfl)))
      clear hout
      match i, ho, hlo, hhi, haf, hun with
      | 0, ho, hlo, hhi, haf, hun =>
        obtain rfl := Option.some.inj ho
        obtain rfl : s = 0 := by have := hhi 0 (by decide) (.inr (by kernel_rfl)); simp at hsr; omega
        refine step_c (w' := TT 0) rfl fun K hK => ?_
        simp only [List.getElem_toArray, List.getElem_cons_zero] at hK ⊢
        clear haf hlo hhi hun ho hsr
        go_simp
        exact hK
      | 1, ho, hlo, hhi, haf, hun =>
        obtain rfl := Option.some.inj ho
        have f0 := getq (show a.tmps.getD 57 undef = Value.pointer (some { block := w1.heap.size + 1, off := 0 }) from haf ⟨0, .data⟩ (by simp) rfl 57 rfl)
        obtain rfl : s = 0 := by have := hhi 0 (by decide) (.inr (by kernel_rfl)); simp at hsr; omega
        refine step_c (w' := TT 0) rfl fun K hK => ?_
        simp only [List.getElem_toArray, List.getElem_cons_succ, List.getElem_cons_zero] at hK ⊢
        clear haf hlo hhi hun ho hsr
        go_simp
        exact hK
      | 2, ho, hlo, hhi, haf, hun =>
        obtain rfl := Option.some.inj ho
        have f1 := getq (show a.tmps.getD 58 undef = Value.pointer (some { block := w1.heap.size + 1, off := 0 }) from haf ⟨1, .data⟩ (by simp) rfl 58 rfl)
        obtain rfl : s = 0 := by have := hhi 0 (by decide) (.inr (by kernel_rfl)); simp at hsr; omega
        refine step_c (w' := TT 0) rfl fun K hK => ?_
        simp only [List.getElem_toArray, List.getElem_cons_succ, List.getElem_cons_zero] at hK ⊢
        clear haf hlo hhi hun ho hsr
        go_simp
        exact hK
      | 3, ho, hlo, hhi, haf, hun =>
        obtain rfl := Option.some.inj ho
        have f2 := getq (show a.tmps.getD 59 undef = .pointer (some ⟨w1.heap.size + 1, 1, none⟩) from haf ⟨2, .data⟩ (by simp) rfl 59 rfl)
        obtain rfl : s = 0 := by have := hhi 0 (by decide) (.inr (by kernel_rfl)); simp at hsr; omega
        refine step_c (w' := TT 0) rfl fun K hK => ?_
        simp only [List.getElem_toArray, List.getElem_cons_succ, List.getElem_cons_zero] at hK ⊢
        clear haf hlo hhi hun ho hsr
        go_simp
        exact hK
      | 4, ho, hlo, hhi, haf, hun =>
        obtain rfl := Option.some.inj ho
        obtain rfl : s = 0 := by have := hhi 0 (by decide) (.inr (by kernel_rfl)); simp at hsr; omega
        refine step_c (w' := TT 0) rfl fun K hK => ?_
        simp only [List.getElem_toArray, List.getElem_cons_succ, List.getElem_cons_zero] at hK ⊢
        clear haf hlo hhi hun ho hsr
        go_simp
        exact hK
      | 5, ho, hlo, hhi, haf, hun =>
        obtain rfl := Option.some.inj ho
        have f4 := getq (show a.tmps.getD 61 undef = .pointer (some ⟨w1.heap.size + 1 + 1, 1, none⟩) from haf ⟨4, .data⟩ (by simp) rfl 61 rfl)
        obtain rfl : s = 0 := by have := hhi 0 (by decide) (.inr (by kernel_rfl)); simp at hsr; omega
        refine step_c (w' := TT 0) rfl fun K hK => ?_
        simp only [List.getElem_toArray, List.getElem_cons_succ, List.getElem_cons_zero] at hK ⊢
        clear haf hlo hhi hun ho hsr
        go_simp
        exact hK
      | 6, ho, hlo, hhi, haf, hun =>
        obtain rfl := Option.some.inj ho
        have f5 := getq (show a.tmps.getD 62 undef = .slice ua l.length uc from haf ⟨5, .data⟩ (by simp) rfl 62 rfl)
        obtain rfl : s = 0 := by have := hhi 0 (by decide) (.inr (by kernel_rfl)); simp at hsr; omega
        refine step_c (w' := TT 0) rfl fun K hK => ?_
        simp only [List.getElem_toArray, List.getElem_cons_succ, List.getElem_cons_zero] at hK ⊢
        clear haf hlo hhi hun ho hsr
        go_simp
        exact hK
      | 7, ho, hlo, hhi, haf, hun =>
        obtain rfl := Option.some.inj ho
        have f3 := getq (show a.tmps.getD 60 undef = .int .i64 0 from haf ⟨3, .data⟩ (by simp) rfl 60 rfl)
        have f6 := getq (show a.tmps.getD 63 undef = .int .i64 (l.length : Int) from haf ⟨6, .data⟩ (by simp) rfl 63 rfl)
        obtain rfl : s = 0 := by have := hhi 0 (by decide) (.inr (by kernel_rfl)); simp at hsr; omega
        refine step_c (w' := TT 0) rfl fun K hK => ?_
        simp only [List.getElem_toArray, List.getElem_cons_succ, List.getElem_cons_zero] at hK ⊢
        clear haf hlo hhi hun ho hsr
        go_simp
        rw [HWRL.out]
        exact hK
      | 8, ho, hlo, hhi, haf, hun =>
        obtain rfl := Option.some.inj ho
        have f0 := getq (show a.tmps.getD 57 undef = Value.pointer (some { block := w1.heap.size + 1, off := 0 }) from haf ⟨0, .data⟩ (by simp) rfl 57 rfl)
        obtain rfl : s = 0 := by have := hhi 0 (by decide) (.inr (by kernel_rfl)); simp at hsr; omega
        refine step_c (w' := TT 0) rfl fun K hK => ?_
        simp only [List.getElem_toArray, List.getElem_cons_succ, List.getElem_cons_zero] at hK ⊢
        clear haf hlo hhi hun ho hsr
        go_simp
        exact hK
      | 9, ho, hlo, hhi, haf, hun =>
        obtain rfl := Option.some.inj ho
        have f8 := getq (show a.tmps.getD 65 undef = Value.pointer (some { block := w1.heap.size + 1, off := 0 }) from haf ⟨8, .data⟩ (by simp) rfl 65 rfl)
        obtain rfl : s = 0 := by have := hhi 0 (by decide) (.inr (by kernel_rfl)); simp at hsr; omega
        refine step_c (w' := TT 0) rfl fun K hK => ?_
        simp only [List.getElem_toArray, List.getElem_cons_succ, List.getElem_cons_zero] at hK ⊢
        clear haf hlo hhi hun ho hsr
        go_simp
        exact hK
      | 10, ho, hlo, hhi, haf, hun =>
        obtain rfl := Option.some.inj ho
        have f9 := getq (show a.tmps.getD 66 undef = .pointer (some ⟨w1.heap.size + 1, 1, none⟩) from haf ⟨9, .data⟩ (by simp) rfl 66 rfl)
        have f7 := getq (show a.tmps.getD 64 undef = .int .i64 (l.length : Int) from haf ⟨7, .data⟩ (by simp) rfl 64 rfl)
        obtain rfl : s = 0 := by have := hhi 0 (by decide) (.inl (by kernel_rfl)); omega
        refine step_c (w' := TT 1) rfl fun K hK => ?_
        simp only [List.getElem_toArray, List.getElem_cons_succ, List.getElem_cons_zero] at hK ⊢
        clear haf hlo hhi hun ho hsr
        rw [HT1.out] at hK
        go_simp
        exact hK
      | n + 11, ho, _, _, _, _ => simp at ho
    · intro aa hdf hsz hout hval
      have hat : aa.tmps = #[Value.int IntKind.i64 (c : Int), Value.slice (some { block := fb, off := 0 }) 1 1, undef, undef, Value.pointer none, Value.int IntKind.i64 0, Value.func (Fn.func 13) #[] #[], Value.pointer (some { block := w1.heap.size + 1, off := 0 }), undef, Value.pointer (some { block := w1.heap.size + 1 + 1, off := 0 }), undef, undef, Value.int IntKind.i64 (c : Int), Value.bool (decide ((c : Int) < 0)), Value.bool (decide ((c : Int) < 0)), Value.int IntKind.i64 (c : Int), Value.bool (decide (4194304 < (c : Int))), Value.bool (decide ((c : Int) < 0) || decide (4194304 < (c : Int))), Value.bool (decide ((c : Int) < 0) || decide (4194304 < (c : Int))), Value.slice (some { block := fb, off := 0 }) 1 1, Value.int IntKind.i64 1, Value.bool false, Value.bool (decide ((c : Int) < 0) || decide (4194304 < (c : Int))), Value.bool (decide ((c : Int) < 0) || decide (4194304 < (c : Int))), Value.slice (some { block := fb, off := 0 }) 1 1, Value.func (Fn.func 13) #[] #[], Value.bool false, Value.bool (decide ((c : Int) < 0) || decide (4194304 < (c : Int))), Value.int IntKind.i64 (c : Int), Value.map (some w1.heap.size), Value.agg #[Value.int IntKind.i64 (c : Int), Value.int IntKind.i64 0, Value.map (some w1.heap.size), Value.int IntKind.i64 0, Value.bool false, Value.int IntKind.i64 0, Value.int IntKind.i64 0, Value.bool false], Value.pointer (some { block := w1.heap.size + 1, off := 0 }), Value.slice (some { block := fb, off := 0 }) 1 1, Value.int IntKind.i64 1, Value.int IntKind.i64 0, Value.bool true, Value.pointer (some { block := fb, off := 0 }), Value.agg #[Value.string sn, Value.slice ua l.length uc], Value.pointer (some { block := w1.heap.size + 1, off := 0 }), Value.pointer (some { block := w1.heap.size + 1, off := 0 }), Value.pointer (some { block := w1.heap.size + 1, off := 2 }), Value.map (some w1.heap.size), Value.pointer (some { block := w1.heap.size + 1 + 1, off := 0 }), Value.string sn, Value.pointer none, Value.bool false, Value.pointer (some { block := w1.heap.size + 1, off := 0 }), Value.pointer (some { block := w1.heap.size + 1, off := 0 }), Value.pointer (some { block := w1.heap.size + 1, off := 2 }), Value.map (some w1.heap.size), Value.pointer (some { block := w1.heap.size + 1 + 1, off := 0 }), Value.string sn, Value.pointer (some { block := w1.heap.size + 1 + 1, off := 1 }), Value.slice ua l.length uc, Value.int IntKind.i64 ↑l.length, Value.agg #[Value.slice none 0 0, Value.int IntKind.i64 ↑l.length], Value.pointer (some { block := w1.heap.size + 3, off := 0 }), Value.pointer (some { block := w1.heap.size + 1, off := 0 }), Value.pointer (some { block := w1.heap.size + 1, off := 0 }), .pointer (some ⟨w1.heap.size + 1, 1, none⟩), .int .i64 0, .pointer (some ⟨w1.heap.size + 1 + 1, 1, none⟩), .slice ua l.length uc, .int .i64 (l.length : Int), .int .i64 (l.length : Int), Value.pointer (some { block := w1.heap.size + 1, off := 0 }), .pointer (some ⟨w1.heap.size + 1, 1, none⟩), undef, undef, undef, undef, undef, undef, undef, undef, undef, undef, undef, undef, undef, undef, undef, undef, undef, undef, undef, undef, undef, undef, undef, undef, undef, undef, undef, undef, undef, undef] := by
        refine arr_one (hsz.trans rfl) fun kk hkk => ?_
        match kk, hkk with
        | 0, _ => exact hout 0 (notDst_spec (by kernel_rfl))
        | 1, _ => exact hout 1 (notDst_spec (by kernel_rfl))
        | 2, _ => exact hout 2 (notDst_spec (by kernel_rfl))
        | 3, _ => exact hout 3 (notDst_spec (by kernel_rfl))
        | 4, _ => exact hout 4 (notDst_spec (by kernel_rfl))
        | 5, _ => exact hout 5 (notDst_spec (by kernel_rfl))
        | 6, _ => exact hout 6 (notDst_spec (by kernel_rfl))
        | 7, _ => exact hout 7 (notDst_spec (by kernel_rfl))
        | 8, _ => exact hout 8 (notDst_spec (by kernel_rfl))
        | 9, _ => exact hout 9 (notDst_spec (by kernel_rfl))
        | 10, _ => exact hout 10 (notDst_spec (by kernel_rfl))
        | 11, _ => exact hout 11 (notDst_spec (by kernel_rfl))
        | 12, _ => exact hout 12 (notDst_spec (by kernel_rfl))
        | 13, _ => exact hout 13 (notDst_spec (by kernel_rfl))
        | 14, _ => exact hout 14 (notDst_spec (by kernel_rfl))
        | 15, _ => exact hout 15 (notDst_spec (by kernel_rfl))
        | 16, _ => exact hout 16 (notDst_spec (by kernel_rfl))
        | 17, _ => exact hout 17 (notDst_spec (by kernel_rfl))
        | 18, _ => exact hout 18 (notDst_spec (by kernel_rfl))
        | 19, _ => exact hout 19 (notDst_spec (by kernel_rfl))
        | 20, _ => exact hout 20 (notDst_spec (by kernel_rfl))
        | 21, _ => exact hout 21 (notDst_spec (by kernel_rfl))
        | 22, _ => exact hout 22 (notDst_spec (by kernel_rfl))
        | 23, _ => exact hout 23 (notDst_spec (by kernel_rfl))
        | 24, _ => exact hout 24 (notDst_spec (by kernel_rfl))
        | 25, _ => exact hout 25 (notDst_spec (by kernel_rfl))
        | 26, _ => exact hout 26 (notDst_spec (by kernel_rfl))
        | 27, _ => exact hout 27 (notDst_spec (by kernel_rfl))
        | 28, _ => exact hout 28 (notDst_spec (by kernel_rfl))
        | 29, _ => exact hout 29 (notDst_spec (by kernel_rfl))
        | 30, _ => exact hout 30 (notDst_spec (by kernel_rfl))
        | 31, _ => exact hout 31 (notDst_spec (by kernel_rfl))
        | 32, _ => exact hout 32 (notDst_spec (by kernel_rfl))
        | 33, _ => exact hout 33 (notDst_spec (by kernel_rfl))
        | 34, _ => exact hout 34 (notDst_spec (by kernel_rfl))
        | 35, _ => exact hout 35 (notDst_spec (by kernel_rfl))
        | 36, _ => exact hout 36 (notDst_spec (by kernel_rfl))
        | 37, _ => exact hout 37 (notDst_spec (by kernel_rfl))
        | 38, _ => exact hout 38 (notDst_spec (by kernel_rfl))
        | 39, _ => exact hout 39 (notDst_spec (by kernel_rfl))
        | 40, _ => exact hout 40 (notDst_spec (by kernel_rfl))
        | 41, _ => exact hout 41 (notDst_spec (by kernel_rfl))
        | 42, _ => exact hout 42 (notDst_spec (by kernel_rfl))
        | 43, _ => exact hout 43 (notDst_spec (by kernel_rfl))
        | 44, _ => exact hout 44 (notDst_spec (by kernel_rfl))
        | 45, _ => exact hout 45 (notDst_spec (by kernel_rfl))
        | 46, _ => exact hout 46 (notDst_spec (by kernel_rfl))
        | 47, _ => exact hout 47 (notDst_spec (by kernel_rfl))
        | 48, _ => exact hout 48 (notDst_spec (by kernel_rfl))
        | 49, _ => exact hout 49 (notDst_spec (by kernel_rfl))
        | 50, _ => exact hout 50 (notDst_spec (by kernel_rfl))
        | 51, _ => exact hout 51 (notDst_spec (by kernel_rfl))
        | 52, _ => exact hout 52 (notDst_spec (by kernel_rfl))
        | 53, _ => exact hout 53 (notDst_spec (by kernel_rfl))
        | 54, _ => exact hout 54 (notDst_spec (by kernel_rfl))
        | 55, _ => exact hout 55 (notDst_spec (by kernel_rfl))
        | 56, _ => exact hout 56 (notDst_spec (by kernel_rfl))
        | 57, _ => exact hval 0 57 (by decide) rfl
        | 58, _ => exact hval 1 58 (by decide) rfl
        | 59, _ => exact hval 2 59 (by decide) rfl
        | 60, _ => exact hval 3 60 (by decide) rfl
        | 61, _ => exact hval 4 61 (by decide) rfl
        | 62, _ => exact hval 5 62 (by decide) rfl
        | 63, _ => exact hval 6 63 (by decide) rfl
        | 64, _ => exact hval 7 64 (by decide) rfl
        | 65, _ => exact hval 8 65 (by decide) rfl
        | 66, _ => exact hval 9 66 (by decide) rfl
        | 67, _ => exact hout 67 (notDst_spec (by kernel_rfl))
        | 68, _ => exact hout 68 (notDst_spec (by kernel_rfl))
        | 69, _ => exact hout 69 (notDst_spec (by kernel_rfl))
        | 70, _ => exact hout 70 (notDst_spec (by kernel_rfl))
        | 71, _ => exact hout 71 (notDst_spec (by kernel_rfl))
        | 72, _ => exact hout 72 (notDst_spec (by kernel_rfl))
        | 73, _ => exact hout 73 (notDst_spec (by kernel_rfl))
        | 74, _ => exact hout 74 (notDst_spec (by kernel_rfl))
        | 75, _ => exact hout 75 (notDst_spec (by kernel_rfl))
        | 76, _ => exact hout 76 (notDst_spec (by kernel_rfl))
        | 77, _ => exact hout 77 (notDst_spec (by kernel_rfl))
        | 78, _ => exact hout 78 (notDst_spec (by kernel_rfl))
        | 79, _ => exact hout 79 (notDst_spec (by kernel_rfl))
        | 80, _ => exact hout 80 (notDst_spec (by kernel_rfl))
        | 81, _ => exact hout 81 (notDst_spec (by kernel_rfl))
        | 82, _ => exact hout 82 (notDst_spec (by kernel_rfl))
        | 83, _ => exact hout 83 (notDst_spec (by kernel_rfl))
        | 84, _ => exact hout 84 (notDst_spec (by kernel_rfl))
        | 85, _ => exact hout 85 (notDst_spec (by kernel_rfl))
        | 86, _ => exact hout 86 (notDst_spec (by kernel_rfl))
        | 87, _ => exact hout 87 (notDst_spec (by kernel_rfl))
        | 88, _ => exact hout 88 (notDst_spec (by kernel_rfl))
        | 89, _ => exact hout 89 (notDst_spec (by kernel_rfl))
        | 90, _ => exact hout 90 (notDst_spec (by kernel_rfl))
        | 91, _ => exact hout 91 (notDst_spec (by kernel_rfl))
        | 92, _ => exact hout 92 (notDst_spec (by kernel_rfl))
        | 93, _ => exact hout 93 (notDst_spec (by kernel_rfl))
        | 94, _ => exact hout 94 (notDst_spec (by kernel_rfl))
        | 95, _ => exact hout 95 (notDst_spec (by kernel_rfl))
        | 96, _ => exact hout 96 (notDst_spec (by kernel_rfl))
        | n + 97, h => exact absurd h (by simp)
      obtain ⟨tt, dd⟩ := aa
      simp only at hat hdf
      subst hat hdf
      clear hsz hout hval
      rw [show TT [10].length = w4 from HW4.out]
      go_wp2_with fail
      rw [rounds_succ]
      go_wp2_with fail
      go_quiet (fail)
      obtain ⟨w5, hw5⟩ : ∃ w5, w5 = w4.drewN nq := ⟨_, rfl⟩
      rw [← hw5]
      have hF5 : Blk w5 fb TFi [.string sn, .slice ua l.length uc] := by rw [hw5]; exact HF4.out
      have f0 := hF5.cell 0 _ rfl
      have f1 := hF5.cell 1 _ rfl
      have hflt5 := hF5.lt
      have HW5 := hd hw5
      have HF5 := hd hF5
      clear hw5 v0 v1 hF5
      go_wp2_with fail
      refine wp_loop_rounds 2 ?_
      rw [rounds_succ]
      go_wp2_with fail
      obtain ⟨w6, hw6⟩ : ∃ w6, w6 = w5.alloc (.cells #[.string sn, .slice ua l.length uc] TFi) := ⟨_, rfl⟩
      rw [← hw6]
      have hX6 : Blk w6 w5.heap.size TFi [.string sn, .slice ua l.length uc] := by rw [hw6]; exact Blk.new w5 TFi [.string sn, .slice ua l.length uc]
      have kk5 : ∀ X T cs, Blk w4 X T cs → Blk w6 X T cs := fun X T cs hX => by
        rw [hw6]
        have : Blk w5 X T cs := by rw [HW5.out]; exact hX
        exact this.alloc _
      have hD6 := kk5 _ _ _ HD4.out
      have hN6 := kk5 _ _ _ HN4.out
      have hM6 : MP w6 w1.heap.size [⟨sn, w1.heap.size + 3, .slice none 0 0, [], l.length⟩] := by
        have h5 : MP w5 w1.heap.size [⟨sn, w1.heap.size + 3, .slice none 0 0, [], l.length⟩] := by rw [HW5.out]; exact MP.same (w := w4) HM4.out rfl
        rw [hw6]
        exact MP.same h5 ((MapKept.heap_alloc w5 _).2 _ h5.lt)
      have hT6 : Tr (fun b => w.heap.size ≤ b) w w6 := by
        rw [hw6, HW5.out]
        exact (HTW4.out.trans (Tr.drewN (fun b => w.heap.size ≤ b) w4 _) fun x q => .inl q).trans (Tr.alloc (fun b => w.heap.size ≤ b) _ _) fun x q => .inl q
      have hI6 : IsB w6 (.slice ua l.length uc) l := HI0.out.below (hT6.below (fun k q => q) (Nat.le_refl _))
      have HCL := hd (clone_is w6.drew _ l hI6 (by omega))
      have RC : Hid (∀ w9, (w9 = w6.drew ∨ ∃ v, Cl w6.drew l (.returned v) w9) → w9.cell? ⟨w1.heap.size + 1, 2, none⟩ = some (.map (some w1.heap.size)) ∧ w9.cell? ⟨w5.heap.size, 0, none⟩ = some (.string sn) ∧ w9.cell? ⟨w5.heap.size, 1, none⟩ = some (.slice ua l.length uc) ∧ (Instr.lookup TM (.map (some w1.heap.size)) (.string sn) false).run Try.prog w9 = .ok (.pointer (some ⟨w1.heap.size + 3, 0, none⟩)) w9) := by
        intro w9 hw9
        have hg : w6.drew.grownBy w9 none := by
          rcases hw9 with rfl | ⟨v, a', c', _, _, hg, _⟩
          · exact World.grownBy.refl _ _
          · exact hg
        refine ⟨(Blk.grown (W := w6.drew) hD6 hg (by simp)).cell 2 _ rfl, (Blk.grown (W := w6.drew) hX6 hg (by simp)).cell 0 _ rfl, (Blk.grown (W := w6.drew) hX6 hg (by simp)).cell 1 _ rfl, ?_⟩
        have hM9 : MP w9 w1.heap.size [⟨sn, w1.heap.size + 3, .slice none 0 0, [], l.length⟩] := MP.same (w := w6.drew) hM6 (hg.block _ hM6.lt (by simp))
        have := hM9.look (isNm_len hs)
        have e9 : fnd [(⟨sn, w1.heap.size + 3, .slice none 0 0, [], l.length⟩ : En)] sn = some ⟨sn, w1.heap.size + 3, .slice none 0 0, [], l.length⟩ := by simp [fnd]
        rw [e9] at this
        exact this
      have HFIN : Hid (∀ w9 a' c', JB w9 0 (.slice a' l.length c') l → w6.drew.grownBy w9 none → (∀ g, (Value.slice a' l.length c').ownBlock = some g → w6.drew.heap.size ≤ g) → Blk w9 (w1.heap.size + 3) TF [.slice none 0 0, .int .i64 (l.length : Int)] ∧ (∃ O, DK (w9.setCell ⟨w1.heap.size + 3, 0, none⟩ (.slice a' l.length c')) (w1.heap.size + 1) O (ds1 c sn l) ∧ (∀ b, O b → w.heap.size ≤ b)) ∧ Tr (fun _ => False) w (w9.setCell ⟨w1.heap.size + 3, 0, none⟩ (.slice a' l.length c'))) := by
        intro w9 a' c' hJ hg hl'
        have hN9 : Blk w9 (w1.heap.size + 3) TF [.slice none 0 0, .int .i64 (l.length : Int)] := Blk.grown (W := w6.drew) hN6 hg (by simp)
        have hD9 : Blk w9 (w1.heap.size + 1) TD (cells (ds1 c sn l) w1.heap.size) := Blk.grown (W := w6.drew) hD6 hg (by simp)
        have hM9 : MP w9 w1.heap.size [⟨sn, w1.heap.size + 3, .slice none 0 0, [], l.length⟩] := MP.same (w := w6.drew) hM6 (hg.block _ hM6.lt (by simp))
        have hs1 := HS1.out
        have hsz := hg.size
        have hsz' : w6.heap.size ≤ w9.heap.size := hsz
        have h6 : w1.heap.size + 3 < w6.heap.size := hN6.lt
        have hge : ∀ g, (Value.slice a' l.length c').ownBlock = some g → w6.heap.size ≤ g := hl'
        refine ⟨hN9, ⟨fun b => b = w1.heap.size ∨ b = w1.heap.size + 1 ∨ b = w1.heap.size + 3 ∨ (Value.slice a' l.length c').ownBlock = some b, ⟨w1.heap.size, [⟨sn, w1.heap.size + 3, .slice a' l.length c', l, l.length⟩], rfl, hD9.other (by show w1.heap.size + 3 ≠ w1.heap.size + 1; omega) _, ?_, ?_, List.pairwise_singleton _ _, ⟨.inr (.inl rfl), .inl rfl, ?_⟩, ?_, good1 hc hs hl⟩, ?_⟩, ?_⟩
        · have h1 : MP w9 w1.heap.size [⟨sn, w1.heap.size + 3, .slice a' l.length c', l, l.length⟩] := by
            have h2 := hM9.upd (s := sn) (e' := ⟨sn, w1.heap.size + 3, .slice a' l.length c', l, l.length⟩) rfl (fun x hx _ => by rw [List.mem_singleton.1 hx])
            have e9 : updE [(⟨sn, w1.heap.size + 3, .slice none 0 0, [], l.length⟩ : En)] sn ⟨sn, w1.heap.size + 3, .slice a' l.length c', l, l.length⟩ = [⟨sn, w1.heap.size + 3, .slice a' l.length c', l, l.length⟩] := by simp [updE]
            rw [e9] at h2
            exact h2
          exact MP.same h1 (set_heap _ _ _ _ _ (by omega))
        · intro e he
          rw [List.mem_singleton.1 he]
          exact ⟨hN9.set _, JB.same hJ fun g hg => set_heap _ _ _ _ _ (by have := hge g hg; omega)⟩
        · intro e he
          rw [List.mem_singleton.1 he]
          exact ⟨.inr (.inr (.inl rfl)), fun g q => .inr (.inr (.inr q))⟩
        · intro b q
          rw [set_size]
          rcases q with q | q | q | q
          · omega
          · omega
          · omega
          · exact hJ.blk_lt b q
        · intro b q
          rcases q with q | q | q | q
          · omega
          · omega
          · omega
          · have := hge b q
            have := hT6.size
            omega
        · have h1 : Tr (fun b => w.heap.size ≤ b) w (w9.setCell ⟨w1.heap.size + 3, 0, none⟩ (.slice a' l.length c')) := ((hT6.trans (Tr.drew (fun b => w.heap.size ≤ b) w6) fun x q => .inl q).trans (Tr.grown (O := fun b => w.heap.size ≤ b) hg fun k q => by cases q) fun x q => .inl q).trans (Tr.set (O := fun b => w.heap.size ≤ b) (p := ⟨w1.heap.size + 3, 0, none⟩) (by show w.heap.size ≤ w1.heap.size + 3; omega) _) fun x q => .inl q
          exact h1.mono fun x q hx => by omega
      clear hw6 hX6 kk5 hD6 hN6 hM6 hT6 hI6 f0 f1 hflt5
      --REGION c
      refine region_call (fun i => match i with
        | 0 => Value.pointer (some { block := w1.heap.size + 1, off := 0 })
        | 1 => Value.pointer (some { block := w1.heap.size + 1, off := 0 })
        | 2 => .pointer (some ⟨w1.heap.size + 1, 2, none⟩)
        | 3 => .map (some w1.heap.size)
        | 4 => .pointer (some ⟨w5.heap.size, 0, none⟩)
        | 5 => .string sn
        | 6 => .pointer (some ⟨w1.heap.size + 3, 0, none⟩)
        | 7 => .pointer (some ⟨w5.heap.size, 1, none⟩)
        | 8 => .slice ua l.length uc
        | 9 => undef
        | 10 => .pointer (some ⟨w1.heap.size + 3, 0, none⟩)
        | 11 => .pointer (some ⟨w1.heap.size + 3, 0, none⟩)
        | 12 => undef
        | _ => undef) 9 12 92 (fun v w9 => Cl w6.drew l (.returned v) w9) hmx (by kernel_rfl) (by kernel_rfl) (by kernel_rfl) (by kernel_rfl) (by decide) (by decide) rfl ?_ ?_ ?_
      · intro i o hiE hiC ho a w9 hw9 hout haf
        have ee7 := getq (show a.tmps.getD 7 undef = Value.pointer (some { block := w1.heap.size + 1, off := 0 }) from hout 7 (notDst_spec (by kernel_rfl)))
        have ee11 := getq (show a.tmps.getD 11 undef = Value.pointer (some { block := w5.heap.size, off := 0 }) from hout 11 (notDst_spec (by kernel_rfl)))
        clear hout
        match i, hiE, hiC, ho, haf with
        | 0, hiE, hiC, ho, haf =>
          obtain rfl := Option.some.inj ho
          refine step_c (w' := w9) rfl fun K hK => ?_
          simp only [List.getElem_toArray, List.getElem_cons_zero] at hK ⊢
          clear haf ho hiE hiC
          go_simp
          exact hK
        | 1, hiE, hiC, ho, haf =>
          obtain rfl := Option.some.inj ho
          have f0 := getq (show a.tmps.getD 83 undef = Value.pointer (some { block := w1.heap.size + 1, off := 0 }) from haf ⟨0, .data⟩ (by simp) rfl (by decide) 83 rfl)
          refine step_c (w' := w9) rfl fun K hK => ?_
          simp only [List.getElem_toArray, List.getElem_cons_succ, List.getElem_cons_zero] at hK ⊢
          clear haf ho hiE hiC
          go_simp
          exact hK
        | 2, hiE, hiC, ho, haf =>
          obtain rfl := Option.some.inj ho
          have f1 := getq (show a.tmps.getD 84 undef = Value.pointer (some { block := w1.heap.size + 1, off := 0 }) from haf ⟨1, .data⟩ (by simp) rfl (by decide) 84 rfl)
          refine step_c (w' := w9) rfl fun K hK => ?_
          simp only [List.getElem_toArray, List.getElem_cons_succ, List.getElem_cons_zero] at hK ⊢
          clear haf ho hiE hiC
          go_simp
          exact hK
        | 3, hiE, hiC, ho, haf =>
          obtain rfl := Option.some.inj ho
          have f2 := getq (show a.tmps.getD 85 undef = .pointer (some ⟨w1.heap.size + 1, 2, none⟩) from haf ⟨2, .data⟩ (by simp) rfl (by decide) 85 rfl)
          refine step_c (w' := w9) rfl fun K hK => ?_
          simp only [List.getElem_toArray, List.getElem_cons_succ, List.getElem_cons_zero] at hK ⊢
          clear haf ho hiE hiC
          have hc := (RC.out w9 hw9).1
          go_simp
          exact hK
        | 4, hiE, hiC, ho, haf =>
          obtain rfl := Option.some.inj ho
          refine step_c (w' := w9) rfl fun K hK => ?_
          simp only [List.getElem_toArray, List.getElem_cons_succ, List.getElem_cons_zero] at hK ⊢
          clear haf ho hiE hiC
          go_simp
          exact hK
        | 5, hiE, hiC, ho, haf =>
          obtain rfl := Option.some.inj ho
          have f4 := getq (show a.tmps.getD 87 undef = .pointer (some ⟨w5.heap.size, 0, none⟩) from haf ⟨4, .data⟩ (by simp) rfl (by decide) 87 rfl)
          refine step_c (w' := w9) rfl fun K hK => ?_
          simp only [List.getElem_toArray, List.getElem_cons_succ, List.getElem_cons_zero] at hK ⊢
          clear haf ho hiE hiC
          have hc := (RC.out w9 hw9).2.1
          go_simp
          exact hK
        | 6, hiE, hiC, ho, haf =>
          obtain rfl := Option.some.inj ho
          have f3 := getq (show a.tmps.getD 86 undef = .map (some w1.heap.size) from haf ⟨3, .data⟩ (by simp) rfl (by decide) 86 rfl)
          have f5 := getq (show a.tmps.getD 88 undef = .string sn from haf ⟨5, .data⟩ (by simp) rfl (by decide) 88 rfl)
          refine step_c (w' := w9) rfl fun K hK => ?_
          simp only [List.getElem_toArray, List.getElem_cons_succ, List.getElem_cons_zero] at hK ⊢
          clear haf ho hiE hiC
          have hc := (RC.out w9 hw9).2.2.2
          go_simp
          exact hK
        | 7, hiE, hiC, ho, haf =>
          obtain rfl := Option.some.inj ho
          refine step_c (w' := w9) rfl fun K hK => ?_
          simp only [List.getElem_toArray, List.getElem_cons_succ, List.getElem_cons_zero] at hK ⊢
          clear haf ho hiE hiC
          go_simp
          exact hK
        | 8, hiE, hiC, ho, haf =>
          obtain rfl := Option.some.inj ho
          have f7 := getq (show a.tmps.getD 90 undef = .pointer (some ⟨w5.heap.size, 1, none⟩) from haf ⟨7, .data⟩ (by simp) rfl (by decide) 90 rfl)
          refine step_c (w' := w9) rfl fun K hK => ?_
          simp only [List.getElem_toArray, List.getElem_cons_succ, List.getElem_cons_zero] at hK ⊢
          clear haf ho hiE hiC
          have hc := (RC.out w9 hw9).2.2.1
          go_simp
          exact hK
        | 9, _, hiC, _, _ => exact absurd rfl hiC
        | 10, hiE, hiC, ho, haf =>
          obtain rfl := Option.some.inj ho
          have f6 := getq (show a.tmps.getD 89 undef = .pointer (some ⟨w1.heap.size + 3, 0, none⟩) from haf ⟨6, .data⟩ (by simp) rfl (by decide) 89 rfl)
          refine step_c (w' := w9) rfl fun K hK => ?_
          simp only [List.getElem_toArray, List.getElem_cons_succ, List.getElem_cons_zero] at hK ⊢
          clear haf ho hiE hiC
          go_simp
          exact hK
        | 11, hiE, hiC, ho, haf =>
          obtain rfl := Option.some.inj ho
          have f10 := getq (show a.tmps.getD 93 undef = .pointer (some ⟨w1.heap.size + 3, 0, none⟩) from haf ⟨10, .data⟩ (by simp) rfl (by decide) 93 rfl)
          refine step_c (w' := w9) rfl fun K hK => ?_
          simp only [List.getElem_toArray, List.getElem_cons_succ, List.getElem_cons_zero] at hK ⊢
          clear haf ho hiE hiC
          go_simp
          exact hK
        | 12, hiE, _, _, _ => exact absurd rfl hiE
        | n + 13, _, _, ho, _ => simp at ho
      · intro o ho a hout haf
        have ee7 := getq (show a.tmps.getD 7 undef = Value.pointer (some { block := w1.heap.size + 1, off := 0 }) from hout 7 (notDst_spec (by kernel_rfl)))
        have ee11 := getq (show a.tmps.getD 11 undef = Value.pointer (some { block := w5.heap.size, off := 0 }) from hout 11 (notDst_spec (by kernel_rfl)))
        obtain rfl := Option.some.inj ho
        have f8 := getq (show a.tmps.getD 91 undef = .slice ua l.length uc from haf ⟨8, .data⟩ (by simp) rfl (by decide) 91 rfl)
        clear haf ho hout
        simp only [List.getElem_toArray, List.getElem_cons_succ, List.getElem_cons_zero]
        go_simp
        refine Calls.mono HCL.out ?_
        rintro e9 w9 hcl
        obtain ⟨a9, c9, rfl, hrest⟩ := hcl
        exact ⟨_, rfl, a9, c9, rfl, hrest⟩
      · intro o ho aa w9 v9 hR9 hdf hsz hout hval hvC hown
        obtain rfl := Option.some.inj ho
        have hat : aa.tmps = #[Value.int IntKind.i64 (c : Int), Value.slice (some { block := fb, off := 0 }) 1 1, undef, undef, Value.pointer none, Value.int IntKind.i64 0, Value.func (Fn.func 13) #[] #[], Value.pointer (some { block := w1.heap.size + 1, off := 0 }), undef, Value.pointer (some { block := w1.heap.size + 1 + 1, off := 0 }), undef, Value.pointer (some { block := w5.heap.size, off := 0 }), Value.int IntKind.i64 (c : Int), Value.bool (decide ((c : Int) < 0)), Value.bool (decide ((c : Int) < 0)), Value.int IntKind.i64 (c : Int), Value.bool (decide (4194304 < (c : Int))), Value.bool (decide ((c : Int) < 0) || decide (4194304 < (c : Int))), Value.bool (decide ((c : Int) < 0) || decide (4194304 < (c : Int))), Value.slice (some { block := fb, off := 0 }) 1 1, Value.int IntKind.i64 1, Value.bool false, Value.bool (decide ((c : Int) < 0) || decide (4194304 < (c : Int))), Value.bool (decide ((c : Int) < 0) || decide (4194304 < (c : Int))), Value.slice (some { block := fb, off := 0 }) 1 1, Value.func (Fn.func 13) #[] #[], Value.bool false, Value.bool (decide ((c : Int) < 0) || decide (4194304 < (c : Int))), Value.int IntKind.i64 (c : Int), Value.map (some w1.heap.size), Value.agg #[Value.int IntKind.i64 (c : Int), Value.int IntKind.i64 0, Value.map (some w1.heap.size), Value.int IntKind.i64 0, Value.bool false, Value.int IntKind.i64 0, Value.int IntKind.i64 0, Value.bool false], Value.pointer (some { block := w1.heap.size + 1, off := 0 }), Value.slice (some { block := fb, off := 0 }) 1 1, Value.int IntKind.i64 1, Value.int IntKind.i64 1, Value.bool false, Value.pointer (some { block := fb, off := 0 }), Value.agg #[Value.string sn, Value.slice ua l.length uc], Value.pointer (some { block := w1.heap.size + 1, off := 0 }), Value.pointer (some { block := w1.heap.size + 1, off := 0 }), Value.pointer (some { block := w1.heap.size + 1, off := 2 }), Value.map (some w1.heap.size), Value.pointer (some { block := w1.heap.size + 1 + 1, off := 0 }), Value.string sn, Value.pointer none, Value.bool false, Value.pointer (some { block := w1.heap.size + 1, off := 0 }), Value.pointer (some { block := w1.heap.size + 1, off := 0 }), Value.pointer (some { block := w1.heap.size + 1, off := 2 }), Value.map (some w1.heap.size), Value.pointer (some { block := w1.heap.size + 1 + 1, off := 0 }), Value.string sn, Value.pointer (some { block := w1.heap.size + 1 + 1, off := 1 }), Value.slice ua l.length uc, Value.int IntKind.i64 ↑l.length, Value.agg #[Value.slice none 0 0, Value.int IntKind.i64 ↑l.length], Value.pointer (some { block := w1.heap.size + 3, off := 0 }), Value.pointer (some { block := w1.heap.size + 1, off := 0 }), Value.pointer (some { block := w1.heap.size + 1, off := 0 }), Value.pointer (some { block := w1.heap.size + 1, off := 1 }), Value.int IntKind.i64 0, Value.pointer (some { block := w1.heap.size + 1 + 1, off := 1 }), Value.slice ua l.length uc, Value.int IntKind.i64 ↑l.length, Value.int IntKind.i64 ↑l.length, Value.pointer (some { block := w1.heap.size + 1, off := 0 }), Value.pointer (some { block := w1.heap.size + 1, off := 1 }), Value.int IntKind.i64 1, Value.pointer (some { block := w1.heap.size + 1, off := 0 }), Value.pointer (some { block := w1.heap.size + 1, off := 0 }), Value.pointer (some { block := w1.heap.size + 1, off := 1 }), Value.int IntKind.i64 ↑l.length, Value.pointer (some { block := w1.heap.size + 1, off := 0 }), Value.pointer (some { block := w1.heap.size + 1, off := 0 }), Value.pointer (some { block := w1.heap.size + 1, off := 0 }), Value.int IntKind.i64 (c : Int), Value.bool (decide (c < l.length)), Value.slice (some { block := fb, off := 0 }) 1 1, Value.int IntKind.i64 1, Value.int IntKind.i64 0, Value.bool true, Value.pointer (some { block := fb, off := 0 }), Value.agg #[Value.string sn, Value.slice ua l.length uc], Value.pointer (some { block := w1.heap.size + 1, off := 0 }), Value.pointer (some { block := w1.heap.size + 1, off := 0 }), .pointer (some ⟨w1.heap.size + 1, 2, none⟩), .map (some w1.heap.size), .pointer (some ⟨w5.heap.size, 0, none⟩), .string sn, .pointer (some ⟨w1.heap.size + 3, 0, none⟩), .pointer (some ⟨w5.heap.size, 1, none⟩), .slice ua l.length uc, v9, .pointer (some ⟨w1.heap.size + 3, 0, none⟩), .pointer (some ⟨w1.heap.size + 3, 0, none⟩), undef, undef] := by
          refine arr_one (hsz.trans rfl) fun kk hkk => ?_
          match kk, hkk with
          | 0, _ => exact hout 0 (notDst_spec (by kernel_rfl))
          | 1, _ => exact hout 1 (notDst_spec (by kernel_rfl))
          | 2, _ => exact hout 2 (notDst_spec (by kernel_rfl))
          | 3, _ => exact hout 3 (notDst_spec (by kernel_rfl))
          | 4, _ => exact hout 4 (notDst_spec (by kernel_rfl))
          | 5, _ => exact hout 5 (notDst_spec (by kernel_rfl))
          | 6, _ => exact hout 6 (notDst_spec (by kernel_rfl))
          | 7, _ => exact hout 7 (notDst_spec (by kernel_rfl))
          | 8, _ => exact hout 8 (notDst_spec (by kernel_rfl))
          | 9, _ => exact hout 9 (notDst_spec (by kernel_rfl))
          | 10, _ => exact hout 10 (notDst_spec (by kernel_rfl))
          | 11, _ => exact hout 11 (notDst_spec (by kernel_rfl))
          | 12, _ => exact hout 12 (notDst_spec (by kernel_rfl))
          | 13, _ => exact hout 13 (notDst_spec (by kernel_rfl))
          | 14, _ => exact hout 14 (notDst_spec (by kernel_rfl))
          | 15, _ => exact hout 15 (notDst_spec (by kernel_rfl))
          | 16, _ => exact hout 16 (notDst_spec (by kernel_rfl))
          | 17, _ => exact hout 17 (notDst_spec (by kernel_rfl))
          | 18, _ => exact hout 18 (notDst_spec (by kernel_rfl))
          | 19, _ => exact hout 19 (notDst_spec (by kernel_rfl))
          | 20, _ => exact hout 20 (notDst_spec (by kernel_rfl))
          | 21, _ => exact hout 21 (notDst_spec (by kernel_rfl))
          | 22, _ => exact hout 22 (notDst_spec (by kernel_rfl))
          | 23, _ => exact hout 23 (notDst_spec (by kernel_rfl))
          | 24, _ => exact hout 24 (notDst_spec (by kernel_rfl))
          | 25, _ => exact hout 25 (notDst_spec (by kernel_rfl))
          | 26, _ => exact hout 26 (notDst_spec (by kernel_rfl))
          | 27, _ => exact hout 27 (notDst_spec (by kernel_rfl))
          | 28, _ => exact hout 28 (notDst_spec (by kernel_rfl))
          | 29, _ => exact hout 29 (notDst_spec (by kernel_rfl))
          | 30, _ => exact hout 30 (notDst_spec (by kernel_rfl))
          | 31, _ => exact hout 31 (notDst_spec (by kernel_rfl))
          | 32, _ => exact hout 32 (notDst_spec (by kernel_rfl))
          | 33, _ => exact hout 33 (notDst_spec (by kernel_rfl))
          | 34, _ => exact hout 34 (notDst_spec (by kernel_rfl))
          | 35, _ => exact hout 35 (notDst_spec (by kernel_rfl))
          | 36, _ => exact hout 36 (notDst_spec (by kernel_rfl))
          | 37, _ => exact hout 37 (notDst_spec (by kernel_rfl))
          | 38, _ => exact hout 38 (notDst_spec (by kernel_rfl))
          | 39, _ => exact hout 39 (notDst_spec (by kernel_rfl))
          | 40, _ => exact hout 40 (notDst_spec (by kernel_rfl))
          | 41, _ => exact hout 41 (notDst_spec (by kernel_rfl))
          | 42, _ => exact hout 42 (notDst_spec (by kernel_rfl))
          | 43, _ => exact hout 43 (notDst_spec (by kernel_rfl))
          | 44, _ => exact hout 44 (notDst_spec (by kernel_rfl))
          | 45, _ => exact hout 45 (notDst_spec (by kernel_rfl))
          | 46, _ => exact hout 46 (notDst_spec (by kernel_rfl))
          | 47, _ => exact hout 47 (notDst_spec (by kernel_rfl))
          | 48, _ => exact hout 48 (notDst_spec (by kernel_rfl))
          | 49, _ => exact hout 49 (notDst_spec (by kernel_rfl))
          | 50, _ => exact hout 50 (notDst_spec (by kernel_rfl))
          | 51, _ => exact hout 51 (notDst_spec (by kernel_rfl))
          | 52, _ => exact hout 52 (notDst_spec (by kernel_rfl))
          | 53, _ => exact hout 53 (notDst_spec (by kernel_rfl))
          | 54, _ => exact hout 54 (notDst_spec (by kernel_rfl))
          | 55, _ => exact hout 55 (notDst_spec (by kernel_rfl))
          | 56, _ => exact hout 56 (notDst_spec (by kernel_rfl))
          | 57, _ => exact hout 57 (notDst_spec (by kernel_rfl))
          | 58, _ => exact hout 58 (notDst_spec (by kernel_rfl))
          | 59, _ => exact hout 59 (notDst_spec (by kernel_rfl))
          | 60, _ => exact hout 60 (notDst_spec (by kernel_rfl))
          | 61, _ => exact hout 61 (notDst_spec (by kernel_rfl))
          | 62, _ => exact hout 62 (notDst_spec (by kernel_rfl))
          | 63, _ => exact hout 63 (notDst_spec (by kernel_rfl))
          | 64, _ => exact hout 64 (notDst_spec (by kernel_rfl))
          | 65, _ => exact hout 65 (notDst_spec (by kernel_rfl))
          | 66, _ => exact hout 66 (notDst_spec (by kernel_rfl))
          | 67, _ => exact hout 67 (notDst_spec (by kernel_rfl))
          | 68, _ => exact hout 68 (notDst_spec (by kernel_rfl))
          | 69, _ => exact hout 69 (notDst_spec (by kernel_rfl))
          | 70, _ => exact hout 70 (notDst_spec (by kernel_rfl))
          | 71, _ => exact hout 71 (notDst_spec (by kernel_rfl))
          | 72, _ => exact hout 72 (notDst_spec (by kernel_rfl))
          | 73, _ => exact hout 73 (notDst_spec (by kernel_rfl))
          | 74, _ => exact hout 74 (notDst_spec (by kernel_rfl))
          | 75, _ => exact hout 75 (notDst_spec (by kernel_rfl))
          | 76, _ => exact hout 76 (notDst_spec (by kernel_rfl))
          | 77, _ => exact hout 77 (notDst_spec (by kernel_rfl))
          | 78, _ => exact hout 78 (notDst_spec (by kernel_rfl))
          | 79, _ => exact hout 79 (notDst_spec (by kernel_rfl))
          | 80, _ => exact hout 80 (notDst_spec (by kernel_rfl))
          | 81, _ => exact hout 81 (notDst_spec (by kernel_rfl))
          | 82, _ => exact hout 82 (notDst_spec (by kernel_rfl))
          | 83, _ => exact hval 0 83 (by decide) (by decide) (by decide) rfl
          | 84, _ => exact hval 1 84 (by decide) (by decide) (by decide) rfl
          | 85, _ => exact hval 2 85 (by decide) (by decide) (by decide) rfl
          | 86, _ => exact hval 3 86 (by decide) (by decide) (by decide) rfl
          | 87, _ => exact hval 4 87 (by decide) (by decide) (by decide) rfl
          | 88, _ => exact hval 5 88 (by decide) (by decide) (by decide) rfl
          | 89, _ => exact hval 6 89 (by decide) (by decide) (by decide) rfl
          | 90, _ => exact hval 7 90 (by decide) (by decide) (by decide) rfl
          | 91, _ => exact hval 8 91 (by decide) (by decide) (by decide) rfl
          | 92, _ => exact hvC
          | 93, _ => exact hval 10 93 (by decide) (by decide) (by decide) rfl
          | 94, _ => exact hval 11 94 (by decide) (by decide) (by decide) rfl
          | 95, _ => exact hout 95 (notDst_spec (by kernel_rfl))
          | 96, _ => exact hout 96 (notDst_spec (by kernel_rfl))
          | n + 97, h => exact absurd h (by simp)
        obtain ⟨tt, dd⟩ := aa
        simp only at hat hdf
        subst hat hdf
        clear hsz hout hval hown ho hvC
        simp only [List.getElem_toArray, List.getElem_cons_succ, List.getElem_cons_zero]
        obtain ⟨a', c', e9, hJ9, hg9, hl9⟩ := hR9
        obtain rfl := Ending.returned.inj e9
        clear e9
        obtain ⟨hN9, ⟨O9, hK9, hO9⟩, hT9⟩ := HFIN.out w9 a' c' hJ9 hg9 hl9
        have n0 := hN9.cell 0 _ rfl
        have g0 := hN9.frozen 0
        have HK9 := hd hK9
        have HO9 := hd hO9
        have HT9 := hd hT9
        clear hN9 hK9 hO9 hT9 hJ9 hg9 hl9
        go_simp
        go_wp2_with fail
        rw [rounds_succ]
        go_wp2_with fail
        go_ret2
        exact ⟨_, O9, rfl, HK9.out, HT9.out, HO9.out⟩
      --END c
    --END b
  --END a
end Dk
end Go.Proofs.Ytpjfoinkifkdoaa
