/-
  THE WALKS OF Read.
  A DISK WHOSE COUNT IS UNDER WAY (as within Crash's loop): the files, without what the state keeps to; sums over files that have been gone over.
-/
import Derived.Test.YtolddolfpnkndaaGreatXuag
namespace Go.Proofs.YtolddolfpnkndaaGreat
open Go.RowKit Go.Maps
namespace Dk
open Vt
attribute [local go_sem ↓] slice_hid min_hid max_hid
theorem cf41 (caps : Array Value) (w : World) : (callFunc 63 caps).run Tryz.prog w = .ok (.enter 63 caps) w := by kernel_rfl
set_option maxRecDepth 100000 in
set_option maxHeartbeats 1000000 in
theorem read1_is (w : World) (fb b1 b2 b3 b4 : Nat) (v ov : Value) (dat : List Nat) (las : Int) (at_ n : Nat) (hfb : Blk w fb TF [v, .int .i64 las]) (hJ : JB w 0 v dat) (h1 : Blk w b1 TP [.pointer (some ⟨fb, 0, none⟩)]) (h2 : Blk w b2 3 [.int .i64 (at_ : Int)]) (h3 : Blk w b3 3 [.int .i64 (n : Int)]) (h4 : Blk w b4 49 [ov]) (hl : dat.length ≤ 4194304) :
    Calls Tryz.prog 63 #[.pointer (some ⟨b1, 0, none⟩), .pointer (some ⟨b2, 0, none⟩), .pointer (some ⟨b3, 0, none⟩), .pointer (some ⟨b4, 0, none⟩)] w fun e w2 => (∃ u, e = .returned u) ∧ ∃ a' c', Blk w2 b4 49 [.slice a' ((dat.drop at_).take n).length c'] ∧ JB w2 0 (.slice a' ((dat.drop at_).take n).length c') ((dat.drop at_).take n) ∧ Tr (fun b => b = b4) w w2 ∧ ∀ g, (Value.slice a' ((dat.drop at_).take n).length c').ownBlock = some g → w.heap.size ≤ g := by
  have hmx : Tryz.prog.follows .mixedOrders = true := by kernel_rfl
  obtain ⟨av, cv, rfl, hlc⟩ := hJ.shape
  obtain ⟨SS, hS0⟩ : ∃ SS : Nat → World, SS 0 = w.drew := ⟨fun _ => w.drew, rfl⟩
  have C1 : (SS 0).cell? ⟨b1, 0, none⟩ = some (.pointer (some ⟨fb, 0, none⟩)) := by rw [hS0]; exact h1.cell 0 _ rfl
  have C2 : (SS 0).cell? ⟨fb, 0, none⟩ = some (.slice av dat.length cv) := by rw [hS0]; exact hfb.cell 0 _ rfl
  have C3 : (SS 0).cell? ⟨b2, 0, none⟩ = some (.int .i64 (at_ : Int)) := by rw [hS0]; exact h2.cell 0 _ rfl
  have C4 : (SS 0).cell? ⟨b3, 0, none⟩ = some (.int .i64 (n : Int)) := by rw [hS0]; exact h3.cell 0 _ rfl
  obtain ⟨k, hk⟩ : ∃ k, k = min at_ dat.length := ⟨_, rfl⟩
  have R1 : ∀ w, (mnO #[3, 3] 3 #[.int .i64 (at_ : Int), .int .i64 (dat.length : Int)]).run Tryz.prog w = .ok (.int .i64 (k : Int)) w := run_mnO _ _ _ _ _ (by split <;> omega)
  have hkl : k ≤ dat.length := by omega
  obtain ⟨va, vc, R2, hB2⟩ := run_slO_from hJ k hkl
  have hdl : (dat.drop k).length = dat.length - k := List.length_drop
  have hvc : (dat.drop k).length ≤ vc := by
    have := hB2.cap
    exact this
  obtain ⟨q, hq⟩ : ∃ q, q = min n (dat.length - k) := ⟨_, rfl⟩
  have R3 : ∀ w, (mnO #[3, 3] 3 #[.int .i64 (n : Int), .int .i64 ((dat.length - k : Nat) : Int)]).run Tryz.prog w = .ok (.int .i64 (q : Int)) w := run_mnO _ _ _ _ _ (by split <;> omega)
  have hB2' : IsB w (.slice va (dat.drop k).length vc) (dat.drop k) := by rw [hdl]; exact hB2
  obtain ⟨R4, hB4⟩ := run_slO_to hB2' hvc q (by rw [hdl]; omega)
  rw [hdl] at R4
  have hres : (dat.drop k).take q = (dat.drop at_).take n := by
    rcases Nat.le_total at_ dat.length with z | z
    · have : k = at_ := by omega
      subst this
      rw [hq]
      rcases Nat.le_total n (dat.length - k) with z2 | z2
      · rw [Nat.min_eq_left z2]
      · rw [Nat.min_eq_right z2, List.take_of_length_le (by rw [hdl]; omega), List.take_of_length_le (by rw [hdl]; omega)]
    · have : k = dat.length := by omega
      rw [this, List.drop_of_length_le (Nat.le_refl _), List.drop_of_length_le z, List.take_nil, List.take_nil]
  rw [hres] at hB4
  have HC := hd (clone_is w.drew _ _ hB4 (by rw [List.length_take, List.length_drop]; omega))
  have HH4 := hd h4
  have HS0 := hd hS0
  clear hS0 h1 h2 h3 h4 hfb hJ hB2 hB2' hB4 hres hk hq hdl hvc
  generalize (dat.drop at_).take n = res at *
  go_enter Tryz.func63, Tryz.ntmps63
  go_wp2_with fail
  --REGION a
  refine region_chain (fun i => match i with
    | 0 => .pointer (some ⟨fb, 0, none⟩)
    | 1 => .pointer (some ⟨fb, 0, none⟩)
    | 2 => .pointer (some ⟨fb, 0, none⟩)
    | 3 => .slice av dat.length cv
    | 4 => .int .i64 (at_ : Int)
    | 5 => .pointer (some ⟨fb, 0, none⟩)
    | 6 => .pointer (some ⟨fb, 0, none⟩)
    | 7 => .pointer (some ⟨fb, 0, none⟩)
    | 8 => .slice av dat.length cv
    | 9 => .int .i64 (dat.length : Int)
    | 10 => .int .i64 (k : Int)
    | 11 => .slice va (dat.length - k) vc
    | 12 => .slice va (dat.length - k) vc
    | _ => undef) [] SS hmx (by kernel_rfl) (by kernel_rfl) (by kernel_rfl) (by kernel_rfl) HS0.out ?_ ?_ (by decide)
  · intro i o ho s a hsr hlo hhi hout haf hun
    have e0 := getq (show a.tmps.getD 0 undef = Value.pointer (some { block := b1, off := 0 }) from hout 0 (notDst_spec (by kernel_rfl)))
    have e1 := getq (show a.tmps.getD 1 undef = Value.pointer (some { block := b2, off := 0 }) from hout 1 (notDst_spec (by kernel_rfl)))
    clear hout
    match i, ho, hlo, hhi, haf, hun with
    | 0, ho, hlo, hhi, haf, hun =>
      obtain rfl := Option.some.inj ho
      obtain rfl : s = 0 := by simp at hsr; omega
      refine step_c (w' := SS 0) rfl fun K hK => ?_
      simp only [List.getElem_toArray, List.getElem_cons_zero] at hK ⊢
      clear haf hlo hhi hun ho hsr
      go_simp
      exact hK
    | 1, ho, hlo, hhi, haf, hun =>
      obtain rfl := Option.some.inj ho
      have f0 := getq (show a.tmps.getD 5 undef = .pointer (some ⟨fb, 0, none⟩) from haf ⟨0, .data⟩ (by simp) rfl 5 rfl)
      obtain rfl : s = 0 := by simp at hsr; omega
      refine step_c (w' := SS 0) rfl fun K hK => ?_
      simp only [List.getElem_toArray, List.getElem_cons_succ, List.getElem_cons_zero] at hK ⊢
      clear haf hlo hhi hun ho hsr
      go_simp
      exact hK
    | 2, ho, hlo, hhi, haf, hun =>
      obtain rfl := Option.some.inj ho
      have f1 := getq (show a.tmps.getD 6 undef = .pointer (some ⟨fb, 0, none⟩) from haf ⟨1, .data⟩ (by simp) rfl 6 rfl)
      obtain rfl : s = 0 := by simp at hsr; omega
      refine step_c (w' := SS 0) rfl fun K hK => ?_
      simp only [List.getElem_toArray, List.getElem_cons_succ, List.getElem_cons_zero] at hK ⊢
      clear haf hlo hhi hun ho hsr
      go_simp
      exact hK
    | 3, ho, hlo, hhi, haf, hun =>
      obtain rfl := Option.some.inj ho
      have f2 := getq (show a.tmps.getD 7 undef = .pointer (some ⟨fb, 0, none⟩) from haf ⟨2, .data⟩ (by simp) rfl 7 rfl)
      obtain rfl : s = 0 := by simp at hsr; omega
      refine step_c (w' := SS 0) rfl fun K hK => ?_
      simp only [List.getElem_toArray, List.getElem_cons_succ, List.getElem_cons_zero] at hK ⊢
      clear haf hlo hhi hun ho hsr
      go_simp
      exact hK
    | 4, ho, hlo, hhi, haf, hun =>
      obtain rfl := Option.some.inj ho
      obtain rfl : s = 0 := by simp at hsr; omega
      refine step_c (w' := SS 0) rfl fun K hK => ?_
      simp only [List.getElem_toArray, List.getElem_cons_succ, List.getElem_cons_zero] at hK ⊢
      clear haf hlo hhi hun ho hsr
      go_simp
      exact hK
    | 5, ho, hlo, hhi, haf, hun =>
      obtain rfl := Option.some.inj ho
      obtain rfl : s = 0 := by simp at hsr; omega
      refine step_c (w' := SS 0) rfl fun K hK => ?_
      simp only [List.getElem_toArray, List.getElem_cons_succ, List.getElem_cons_zero] at hK ⊢
      clear haf hlo hhi hun ho hsr
      go_simp
      exact hK
    | 6, ho, hlo, hhi, haf, hun =>
      obtain rfl := Option.some.inj ho
      have f5 := getq (show a.tmps.getD 10 undef = .pointer (some ⟨fb, 0, none⟩) from haf ⟨5, .data⟩ (by simp) rfl 10 rfl)
      obtain rfl : s = 0 := by simp at hsr; omega
      refine step_c (w' := SS 0) rfl fun K hK => ?_
      simp only [List.getElem_toArray, List.getElem_cons_succ, List.getElem_cons_zero] at hK ⊢
      clear haf hlo hhi hun ho hsr
      go_simp
      exact hK
    | 7, ho, hlo, hhi, haf, hun =>
      obtain rfl := Option.some.inj ho
      have f6 := getq (show a.tmps.getD 11 undef = .pointer (some ⟨fb, 0, none⟩) from haf ⟨6, .data⟩ (by simp) rfl 11 rfl)
      obtain rfl : s = 0 := by simp at hsr; omega
      refine step_c (w' := SS 0) rfl fun K hK => ?_
      simp only [List.getElem_toArray, List.getElem_cons_succ, List.getElem_cons_zero] at hK ⊢
      clear haf hlo hhi hun ho hsr
      go_simp
      exact hK
    | 8, ho, hlo, hhi, haf, hun =>
      obtain rfl := Option.some.inj ho
      have f7 := getq (show a.tmps.getD 12 undef = .pointer (some ⟨fb, 0, none⟩) from haf ⟨7, .data⟩ (by simp) rfl 12 rfl)
      obtain rfl : s = 0 := by simp at hsr; omega
      refine step_c (w' := SS 0) rfl fun K hK => ?_
      simp only [List.getElem_toArray, List.getElem_cons_succ, List.getElem_cons_zero] at hK ⊢
      clear haf hlo hhi hun ho hsr
      go_simp
      exact hK
    | 9, ho, hlo, hhi, haf, hun =>
      obtain rfl := Option.some.inj ho
      have f8 := getq (show a.tmps.getD 13 undef = .slice av dat.length cv from haf ⟨8, .data⟩ (by simp) rfl 13 rfl)
      obtain rfl : s = 0 := by simp at hsr; omega
      refine step_c (w' := SS 0) rfl fun K hK => ?_
      simp only [List.getElem_toArray, List.getElem_cons_succ, List.getElem_cons_zero] at hK ⊢
      clear haf hlo hhi hun ho hsr
      go_simp
      exact hK
    | 10, ho, hlo, hhi, haf, hun =>
      obtain rfl := Option.some.inj ho
      have f4 := getq (show a.tmps.getD 9 undef = .int .i64 (at_ : Int) from haf ⟨4, .data⟩ (by simp) rfl 9 rfl)
      have f9 := getq (show a.tmps.getD 14 undef = .int .i64 (dat.length : Int) from haf ⟨9, .data⟩ (by simp) rfl 14 rfl)
      obtain rfl : s = 0 := by simp at hsr; omega
      refine step_c (w' := SS 0) rfl fun K hK => ?_
      simp only [List.getElem_toArray, List.getElem_cons_succ, List.getElem_cons_zero] at hK ⊢
      clear haf hlo hhi hun ho hsr
      go_simp
      exact hK
    | 11, ho, hlo, hhi, haf, hun =>
      obtain rfl := Option.some.inj ho
      have f3 := getq (show a.tmps.getD 8 undef = .slice av dat.length cv from haf ⟨3, .data⟩ (by simp) rfl 8 rfl)
      have f10 := getq (show a.tmps.getD 15 undef = .int .i64 (k : Int) from haf ⟨10, .data⟩ (by simp) rfl 15 rfl)
      obtain rfl : s = 0 := by simp at hsr; omega
      refine step_c (w' := SS 0) rfl fun K hK => ?_
      simp only [List.getElem_toArray, List.getElem_cons_succ, List.getElem_cons_zero] at hK ⊢
      clear haf hlo hhi hun ho hsr
      go_simp
      exact hK
    | 12, ho, hlo, hhi, haf, hun =>
      obtain rfl := Option.some.inj ho
      have f11 := getq (show a.tmps.getD 16 undef = .slice va (dat.length - k) vc from haf ⟨11, .data⟩ (by simp) rfl 16 rfl)
      obtain rfl : s = 0 := by simp at hsr; omega
      refine step_c (w' := SS 0) rfl fun K hK => ?_
      simp only [List.getElem_toArray, List.getElem_cons_succ, List.getElem_cons_zero] at hK ⊢
      clear haf hlo hhi hun ho hsr
      go_simp
      exact hK
    | n + 13, ho, _, _, _, _ => simp at ho
  · intro aa hdf hsz hout hval
    have hat : aa.tmps = #[Value.pointer (some { block := b1, off := 0 }), Value.pointer (some { block := b2, off := 0 }), Value.pointer (some { block := b3, off := 0 }), Value.pointer (some { block := b4, off := 0 }), .slice va (dat.length - k) vc, .pointer (some ⟨fb, 0, none⟩), .pointer (some ⟨fb, 0, none⟩), .pointer (some ⟨fb, 0, none⟩), .slice av dat.length cv, .int .i64 (at_ : Int), .pointer (some ⟨fb, 0, none⟩), .pointer (some ⟨fb, 0, none⟩), .pointer (some ⟨fb, 0, none⟩), .slice av dat.length cv, .int .i64 (dat.length : Int), .int .i64 (k : Int), .slice va (dat.length - k) vc, undef, undef, undef, undef, undef, undef, undef] := by
      refine arr_one (hsz.trans rfl) fun kk hkk => ?_
      match kk, hkk with
      | 0, _ => exact hout 0 (notDst_spec (by kernel_rfl))
      | 1, _ => exact hout 1 (notDst_spec (by kernel_rfl))
      | 2, _ => exact hout 2 (notDst_spec (by kernel_rfl))
      | 3, _ => exact hout 3 (notDst_spec (by kernel_rfl))
      | 4, _ => exact hval 12 4 (by decide) rfl
      | 5, _ => exact hval 0 5 (by decide) rfl
      | 6, _ => exact hval 1 6 (by decide) rfl
      | 7, _ => exact hval 2 7 (by decide) rfl
      | 8, _ => exact hval 3 8 (by decide) rfl
      | 9, _ => exact hval 4 9 (by decide) rfl
      | 10, _ => exact hval 5 10 (by decide) rfl
      | 11, _ => exact hval 6 11 (by decide) rfl
      | 12, _ => exact hval 7 12 (by decide) rfl
      | 13, _ => exact hval 8 13 (by decide) rfl
      | 14, _ => exact hval 9 14 (by decide) rfl
      | 15, _ => exact hval 10 15 (by decide) rfl
      | 16, _ => exact hval 11 16 (by decide) rfl
      | 17, _ => exact hout 17 (notDst_spec (by kernel_rfl))
      | 18, _ => exact hout 18 (notDst_spec (by kernel_rfl))
      | 19, _ => exact hout 19 (notDst_spec (by kernel_rfl))
      | 20, _ => exact hout 20 (notDst_spec (by kernel_rfl))
      | 21, _ => exact hout 21 (notDst_spec (by kernel_rfl))
      | 22, _ => exact hout 22 (notDst_spec (by kernel_rfl))
      | 23, _ => exact hout 23 (notDst_spec (by kernel_rfl))
      | n + 24, h => exact absurd h (by simp)
    obtain ⟨tt, dd⟩ := aa
    simp only at hat hdf
    subst hat hdf
    clear hsz hout hval
    rw [show SS ([] : List Nat).length = w.drew from HS0.out]
    have C4' : w.drew.cell? ⟨b3, 0, none⟩ = some (.int .i64 (n : Int)) := by rw [← HS0.out]; exact C4
    clear C1 C2 C3 C4 R1 R2
    go_wp2_with fail
    refine Calls.mono HC.out ?_
    rintro e w1 ⟨a', c', rfl, hJ1, hg1, hl1⟩
    have hb4 : Blk w1 b4 49 [ov] := Blk.grown (W := w.drew) HH4.out hg1 (by simp)
    have e0 := hb4.cell 0 _ rfl
    have g0 := hb4.frozen 0
    have HJ1 := hd hJ1
    have HG1 := hd hg1
    have HL1 := hd hl1
    have HB4 := hd hb4
    clear hJ1 hg1 hl1 hb4
    go_wp2_with fail
    go_end0
    refine ⟨⟨_, rfl⟩, a', c', HB4.out.set _, JB.same HJ1.out fun g hg => set_heap _ _ _ _ _ (jb_ne HJ1.out hg HB4.out (by decide)), ?_, fun g q => HL1.out g q⟩
    exact ((Tr.drew (fun b => b = b4) w).trans (Tr.grown (O := fun b => b = b4) HG1.out (fun k q => by cases q)) fun x q => .inl q).trans (Tr.set (O := fun b => b = b4) (p := ⟨b4, 0, none⟩) rfl _) fun x q => .inl q
  --END a
/-- what Read leaves -/
def Rd (O : Nat → Prop) (w : World) (d : Nat) (S : Ds) (r : Nat) (l : List Nat) (v : Value) (w' : World) : Prop := DK w' d O S ∧ Tr O w w' ∧ (r = 0 → JB w' 0 v l) ∧ (r ≠ 0 → v = .slice none 0 0) ∧ ∀ g, v.ownBlock = some g → w.heap.size ≤ g
set_option maxRecDepth 100000 in
set_option maxHeartbeats 1000000 in
theorem read_is (w : World) (d : Nat) (O : Nat → Prop) (S : Ds) (s : ByteArray) (at_ n : Int) (h : DK w d O S) (ha : S.acts < 4611686018427387904) :
    Calls Tryz.prog 37 #[.pointer (some ⟨d, 0, none⟩), .string s, .int .i64 at_, .int .i64 n] w fun e w' => ∃ v, e = .returned (.tuple #[v, .int .i64 ((read S s at_ n).1 : Int)]) ∧ Rd O w d (read S s at_ n).2 (read S s at_ n).1 (bytes S s at_ n) v w' := by
  obtain ⟨m, es, h⟩ := h
  obtain ⟨bb, hbb⟩ : ∃ bb, bb = (decide (0 ≤ at_) && decide (0 ≤ n)) := ⟨_, rfl⟩
  obtain ⟨W, hW⟩ : ∃ W, W = (w.alloc (.cells #[.int .i64 at_] 3)).alloc (.cells #[.int .i64 n] 3) := ⟨_, rfl⟩
  have hK : DKm W d m es O S := by rw [hW]; exact (h.alloc _).alloc _
  have htW : Tr O w W := by rw [hW]; exact (Tr.alloc O w _).trans (Tr.alloc O _ _) fun x q => .inl q
  have hb1 : Blk W w.heap.size 3 [.int .i64 at_] := by rw [hW]; exact (Blk.new w _ [.int .i64 at_]).alloc _
  have hb2 : Blk W (w.heap.size + 1) 3 [.int .i64 n] := by
    rw [hW]
    have := Blk.new (w.alloc (.cells #[.int .i64 at_] 3)) 3 [.int .i64 n]
    rwa [alloc_size] at this
  have hWs : W.heap.size = w.heap.size + 2 := by rw [hW, alloc_size, alloc_size]
  obtain ⟨p, hp, hp0⟩ := fans_eq hK s bb
  have HF := hd (find_is W d m es O S s bb hK)
  rw [hp] at HF
  obtain ⟨V, hV⟩ : ∃ V, V = (W.alloc (.cells #[.pointer p] TP)).alloc (.cells #[.slice none 0 0] 49) := ⟨_, rfl⟩
  have hKV : DKm V d m es O S := by rw [hV]; exact (hK.alloc _).alloc _
  have htV : Tr O w V := by rw [hV]; exact (htW.trans (Tr.alloc O W _) fun x q => .inl q).trans (Tr.alloc O _ _) fun x q => .inl q
  have hb3 : Blk V (w.heap.size + 2) TP [.pointer p] := by
    rw [hV]
    have := Blk.new W TP [.pointer p]
    rw [hWs] at this
    exact this.alloc _
  have hb4 : Blk V (w.heap.size + 3) 49 [.slice none 0 0] := by
    rw [hV]
    have := Blk.new (W.alloc (.cells #[.pointer p] TP)) 49 [.slice none 0 0]
    rwa [alloc_size, hWs] at this
  have hb1V : Blk V w.heap.size 3 [.int .i64 at_] := by rw [hV]; exact (hb1.alloc _).alloc _
  have hb2V : Blk V (w.heap.size + 1) 3 [.int .i64 n] := by rw [hV]; exact (hb2.alloc _).alloc _
  have hdl := h.box.lt
  have HA : Hid (Calls Tryz.prog 62 #[.pointer (some ⟨d, 0, none⟩), .int .i64 (look S s bb : Int), .func (.func 63) #[] #[.pointer (some ⟨w.heap.size + 2, 0, none⟩), .pointer (some ⟨w.heap.size, 0, none⟩), .pointer (some ⟨w.heap.size + 1, 0, none⟩), .pointer (some ⟨w.heap.size + 3, 0, none⟩)]] V fun e w' => ∃ r : Nat, e = .returned (.int .i64 (r : Int)) ∧ r = (read S s at_ n).1 ∧ DK w' d O (read S s at_ n).2 ∧ Tr O w w' ∧ (r = 0 → ∃ v, w'.cell? ⟨w.heap.size + 3, 0, none⟩ = some v ∧ JB w' 0 v (bytes S s at_ n) ∧ ∀ g, v.ownBlock = some g → w.heap.size ≤ g)) := by
    unfold read actOf
    rw [← hbb]
    by_cases h0 : look S s bb = 0
    · rw [h0]
      simp only [ne_eq, not_true_eq_false, if_false]
      obtain ⟨e, hfe, rfl, _, hbt, _⟩ := hp0 h0
      rw [hbt] at hbb
      have hpos : 0 ≤ at_ ∧ 0 ≤ n := by simpa using hbb.symm
      obtain ⟨a1, rfl⟩ := Int.eq_ofNat_of_zero_le hpos.1
      obtain ⟨n1, rfl⟩ := Int.eq_ofNat_of_zero_le hpos.2
      have hO : ∀ {a b : World}, Tr (fun b => b = d) a b → Tr O a b := fun q => q.mono fun x e _ => by rw [e]; exact h.own.1
      refine act_is V d m S _ _ hKV.box h.good ha (cf41 _) _ ?_ ?_ ?_
      · intro hb hf w1 ht hb1
        unfold run
        rw [if_neg hb, if_pos hf]
        exact ⟨rfl, ⟨m, es, hKV.turn ht hb1 rfl h.good.tick⟩, htV.trans (hO ht) fun x q => .inl q, fun q => by cases q⟩
      · intro hb hf w1 ht hb1
        unfold run
        rw [if_pos hb, hf]
        exact ⟨rfl, ⟨m, es, hKV.turn ht hb1 rfl (h.good.tick.dn true)⟩, htV.trans (hO ht) fun x q => .inl q, fun q => by cases q⟩
      · intro hc w1 ht hbx
        have hK1 := hKV.turn ht hbx rfl h.good.tick
        obtain ⟨hm, hs⟩ := fnd_mem hfe
        obtain ⟨hfb, hJ⟩ := hK1.file e hm
        have kp : ∀ X T cs, Blk V X T cs → X ≠ d → Blk w1 X T cs := fun X T cs hX hne => (ht.block X hX.lt hne).trans hX
        have hle : e.dat.length ≤ 4194304 := by
          have h1 := h.good.cap
          have h2 := h.good.room
          have h3 : e.dat.length ≤ S.used := by rw [h.good.used, h.fs]; exact get_len_le (f := e.fi) (by rw [fnd_get, hfe]; rfl)
          omega
        refine (read1_is w1 e.blk _ _ _ _ e.val (.slice none 0 0) e.dat _ a1 n1 hfb hJ (kp _ _ _ hb3 (by omega)) (kp _ _ _ hb1V (by omega)) (kp _ _ _ hb2V (by omega)) (kp _ _ _ hb4 (by omega)) hle).mono ?_
        rintro e2 w2 ⟨hv, a', c', hB2, hJ2, ht2, hl2⟩
        have hbx2 : bytes S s (a1 : Int) (n1 : Int) = (e.dat.drop a1).take n1 := by
          unfold bytes
          rw [h.fs, fnd_get, hfe]; rfl
        have hNO : ∀ b, O b → b ≠ w.heap.size + 3 := fun b q z => by have := h.olt b q; omega
        have hK2 := hK1.aside ht2 (fun b q z => hNO b q z)
        have ht12 : Tr O w w2 := (htV.trans (hO ht) fun x q => .inl q).trans ht2 fun x q => .inr (by rw [q]; omega)
        refine ⟨hv, fun hb => ?_, fun hb => ?_⟩
        · rcases hc with ⟨q, _⟩ | ⟨_, hf⟩
          · exact absurd q hb
          · unfold run
            rw [if_neg hb, if_neg hf]
            refine ⟨rfl, ⟨m, es, hK2⟩, ht12, fun _ => ⟨_, hB2.cell 0 _ rfl, by rw [hbx2]; exact hJ2, fun g q => ?_⟩⟩
            have := hl2 g q
            have := ht.size
            have := htV.size
            omega
        · rcases hc with ⟨_, hdn⟩ | ⟨q, _⟩
          · refine ⟨⟨_, hK2.box.cell 4 _ rfl⟩, hK2.box.frozen 4, ?_⟩
            unfold run
            rw [if_pos hb, hdn]
            have hts : Tr (fun b => b = d) w2 (w2.setCell ⟨d, 4, none⟩ (.bool true)) := Tr.set (p := ⟨d, 4, none⟩) (O := fun b => b = d) rfl _
            exact ⟨rfl, ⟨m, es, hK2.turn hts (hK2.box.set _) rfl (hK2.good.dn true)⟩, ht12.trans hts (fun x e => .inl (by rw [e]; exact h.own.1)), fun q => by cases q⟩
          · exact absurd hb q
    · rw [if_pos h0]
      refine (act_ref V _ _ _ h0).mono ?_
      rintro e w' ⟨rfl, rfl⟩
      exact ⟨_, rfl, rfl, ⟨m, es, hKV⟩, htV, fun q => absurd q h0⟩
  have HW := hd hW
  have HV := hd hV
  have hWs' := hd hWs
  have cA : W.cell? ⟨w.heap.size, 0, none⟩ = some (.int .i64 at_) := hb1.cell 0 _ rfl
  have cN : W.cell? ⟨w.heap.size + 1, 0, none⟩ = some (.int .i64 n) := hb2.cell 0 _ rfl
  have HBB := hd hbb
  clear h hW hV hK hKV htW htV hb1 hb2 hb3 hb4 hb1V hb2V hp hp0 hWs hdl hbb
  generalize read S s at_ n = RR at HA ⊢
  obtain ⟨R1, S1⟩ := RR
  by_cases hat : 0 ≤ at_
  · obtain rfl : bb = decide (0 ≤ n) := by rw [HBB.out, decide_eq_true hat, Bool.true_and]
    clear HBB
    generalize look S s (decide (0 ≤ n)) = r at HF HA
    go_enter Tryz.func37, Tryz.ntmps37
    go_wp2_with fail
    rw [← HW.out]
    refine Calls.mono HF.out ?_
    rintro e w1 ⟨rfl, rfl⟩
    go_wp2_with fail
    rw [← HV.out, hWs'.out]
    refine Calls.mono HA.out ?_
    rintro e w2 ⟨r2, rfl, hr2, hK2, ht2, hv2⟩
    subst hr2
    have HK2 := hd hK2
    have HT2 := hd ht2
    by_cases h0 : r2 = 0
    · obtain ⟨v, hc, hJ, hl⟩ := hv2 h0
      have HJ := hd hJ
      have HL := hd hl
      have hc' : w2.cell? ⟨w.heap.size + 2 + 1, 0, none⟩ = some v := hc
      clear hv2 hJ hl hK2 ht2 hc
      obtain ⟨a', c', rfl, _⟩ := HJ.out.shape
      subst h0
      go_wp2_with fail
      go_ret2
      exact ⟨_, rfl, HK2.out, HT2.out, fun _ => HJ.out, fun q => absurd rfl q, HL.out⟩
    · clear hv2 hK2 ht2
      have h0' : ¬ ((r2 : Int) = 0) := by omega
      go_wp2_with fail
      go_ret2
      exact ⟨_, rfl, HK2.out, HT2.out, fun q => absurd q h0, fun _ => rfl, fun g q => by cases q⟩
  · obtain rfl : bb = false := by rw [HBB.out, decide_eq_false hat, Bool.false_and]
    clear HBB
    generalize look S s false = r at HF HA
    go_enter Tryz.func37, Tryz.ntmps37
    go_wp2_with fail
    rw [← HW.out]
    refine Calls.mono HF.out ?_
    rintro e w1 ⟨rfl, rfl⟩
    go_wp2_with fail
    rw [← HV.out, hWs'.out]
    refine Calls.mono HA.out ?_
    rintro e w2 ⟨r2, rfl, hr2, hK2, ht2, hv2⟩
    subst hr2
    have HK2 := hd hK2
    have HT2 := hd ht2
    by_cases h0 : r2 = 0
    · obtain ⟨v, hc, hJ, hl⟩ := hv2 h0
      have HJ := hd hJ
      have HL := hd hl
      have hc' : w2.cell? ⟨w.heap.size + 2 + 1, 0, none⟩ = some v := hc
      clear hv2 hJ hl hK2 ht2 hc
      obtain ⟨a', c', rfl, _⟩ := HJ.out.shape
      subst h0
      go_wp2_with fail
      go_ret2
      exact ⟨_, rfl, HK2.out, HT2.out, fun _ => HJ.out, fun q => absurd rfl q, HL.out⟩
    · clear hv2 hK2 ht2
      have h0' : ¬ ((r2 : Int) = 0) := by omega
      go_wp2_with fail
      go_ret2
      exact ⟨_, rfl, HK2.out, HT2.out, fun q => absurd q h0, fun _ => rfl, fun g q => by cases q⟩
end Dk
end Go.Proofs.YtolddolfpnkndaaGreat
namespace Go.Proofs.YtolddolfpnkndaaGreat
open Go.RowKit Go.Maps
namespace Dk
open Vt
structure DKq (w : World) (d m : Nat) (es : List En) (O : Nat → Prop) (cs : List Value) : Prop where
  box : Blk w d TD cs
  map : MP w m es
  file : ∀ e ∈ es, Blk w e.blk TF [e.val, .int .i64 (e.las : Int)] ∧ JB w 0 e.val e.dat
  apart : es.Pairwise fun a b => a.blk ≠ b.blk ∧ ∀ g, a.val.ownBlock = some g → b.val.ownBlock ≠ some g
  names : es.Pairwise fun a b => a.nm ≠ b.nm
  own : O d ∧ O m ∧ ∀ e ∈ es, O e.blk ∧ ∀ g, e.val.ownBlock = some g → O g
  olt : ∀ b, O b → b < w.heap.size
theorem DKm.q {w : World} {d m : Nat} {es : List En} {O : Nat → Prop} {S : Ds} (h : DKm w d m es O S) : DKq w d m es O (cells S m) := ⟨h.box, h.map, h.file, h.apart, h.names, h.own, h.olt⟩
theorem DKq.m {w : World} {d m : Nat} {es : List En} {O : Nat → Prop} {S : Ds} (h : DKq w d m es O (cells S m)) (hf : S.fs = es.map En.fi) (hg : Good S) : DKm w d m es O S := ⟨hf, h.box, h.map, h.file, h.apart, h.own, h.olt, hg⟩
/-- the disk's own struct alone has turned -/
theorem DKq.turn {w w1 : World} {d m : Nat} {es : List En} {O : Nat → Prop} {cs cs' : List Value} (h : DKq w d m es O cs) (ht : Tr (fun b => b = d) w w1) (hb : Blk w1 d TD cs') : DKq w1 d m es O cs' := by
  have hne : ∀ e ∈ es, e.blk ≠ d := fun e he => blk_ne (h.file e he).1 h.box (by decide)
  have hm : m ≠ d := fun e => h.map.notBlk h.box e.symm
  refine ⟨hb, h.map.same (ht.block m h.map.lt hm), fun e he => ⟨(ht.block _ (h.file e he).1.lt (hne e he)).trans (h.file e he).1, JB.same (h.file e he).2 fun g hg => ?_⟩, h.apart, h.names, h.own, fun b q => Nat.lt_of_lt_of_le (h.olt b q) ht.size⟩
  obtain ⟨cur, hq⟩ := jb_row (h.file e he).2 hg
  exact ht.block g (Array.getElem?_eq_some_iff.1 hq).1 (jb_ne (h.file e he).2 hg h.box (by decide))
theorem DKq.aside {w w' : World} {d m : Nat} {es : List En} {O O2 : Nat → Prop} {cs : List Value} (h : DKq w d m es O cs) (ht : Tr O2 w w') (ha : ∀ b, O b → ¬ O2 b) : DKq w' d m es O cs := by
  have hb : ∀ b, O b → w'.heap[b]? = w.heap[b]? := fun b q => ht.block b (h.olt b q) (ha b q)
  exact ⟨(hb d h.own.1).trans h.box, h.map.same (hb m h.own.2.1), fun e he => ⟨(hb _ (h.own.2.2 e he).1).trans (h.file e he).1, JB.same (h.file e he).2 fun g hg => hb g ((h.own.2.2 e he).2 g hg)⟩, h.apart, h.names, h.own, fun b q => Nat.lt_of_lt_of_le (h.olt b q) ht.size⟩
theorem updE_names {es : List En} {s : ByteArray} {e' : En} (he : e'.nm = s) (h : es.Pairwise fun a b => a.nm ≠ b.nm) : (updE es s e').Pairwise fun a b => a.nm ≠ b.nm := by
  unfold updE
  rw [List.pairwise_map]
  refine h.imp ?_
  intro a b hab
  have ha : (if a.nm = s then e' else a).nm = a.nm := by split; rw [he]; exact (by assumption : a.nm = s).symm; rfl
  have hb : (if b.nm = s then e' else b).nm = b.nm := by split; rw [he]; exact (by assumption : b.nm = s).symm; rfl
  rw [ha, hb]; exact hab
/-- one file is another one, under its name, in its block; all else is as it was -/
theorem DKq.put {w w2 : World} {d m : Nat} {es : List En} {O : Nat → Prop} {cs cs' : List Value} (h : DKq w d m es O cs) {s : ByteArray} {e e' : En} (hf : fnd es s = some e) (hn : e'.nm = e.nm) (hbl : e'.blk = e.blk)
    (hoth : ∀ b, O b → b ≠ e.blk → b ≠ d → e.val.ownBlock ≠ some b → w2.heap[b]? = w.heap[b]?) (hsz : w.heap.size ≤ w2.heap.size)
    (hbox : Blk w2 d TD cs') (hfile : Blk w2 e.blk TF [e'.val, .int .i64 (e'.las : Int)]) (hJ : JB w2 0 e'.val e'.dat)
    (hnew : ∀ g, e'.val.ownBlock = some g → e.val.ownBlock = some g ∨ w.heap.size ≤ g) :
    DKq w2 d m (updE es s e') (fun b => O b ∨ e'.val.ownBlock = some b) cs' := by
  obtain ⟨hm, hs⟩ := fnd_mem hf
  have hnd : ∀ x ∈ es, x.blk ≠ d := by
    rintro x hx rfl
    have h1 : w.heap[x.blk]? = some (.cells cs.toArray TD (0, 0)) := h.box
    have h2 : w.heap[x.blk]? = some (.cells [x.val, .int .i64 (x.las : Int)].toArray TF (0, 0)) := (h.file x hx).1
    rw [h1] at h2
    injection h2 with h2
    injection h2 with _ h3 _
    cases h3
  have hrow : ∀ x ∈ es, ∀ g, x.val.ownBlock = some g → ∃ cur, w.heap[g]? = some (.cells cur 5 (0, 0)) := by
    intro x hx g hg
    obtain ⟨_, _, ⟨q2, _⟩ | ⟨g', cap, cur, q2, _, q4, _⟩⟩ := (h.file x hx).2
    · rw [q2] at hg; cases hg
    · rw [q2] at hg
      have : g' = g := by simpa [Value.ownBlock] using hg
      subst this
      exact ⟨cur, q4⟩
  have hrd : ∀ x ∈ es, ∀ g, x.val.ownBlock = some g → g ≠ d := by
    rintro x hx g hg rfl
    obtain ⟨cur, hq⟩ := hrow x hx g hg
    have h1 : w.heap[g]? = some (.cells cs.toArray TD (0, 0)) := h.box
    rw [h1] at hq
    injection hq with hq
    injection hq with _ hq _
    cases hq
  have hrf : ∀ x ∈ es, ∀ y ∈ es, ∀ g, x.val.ownBlock = some g → g ≠ y.blk := by
    rintro x hx y hy g hg rfl
    obtain ⟨cur, hq⟩ := hrow x hx _ hg
    have h1 : w.heap[y.blk]? = some (.cells [y.val, .int .i64 (y.las : Int)].toArray TF (0, 0)) := (h.file y hy).1
    rw [h1] at hq
    injection hq with hq
    injection hq with _ hq _
    cases hq
  -- two unlike files are apart
  have hap : ∀ x ∈ es, x.nm ≠ s → x.blk ≠ e.blk ∧ ∀ g, x.val.ownBlock = some g → e.val.ownBlock ≠ some g := by
    intro x hx hxs
    have hxe : x ≠ e := fun q => hxs (by rw [q]; exact hs)
    have sym : ∀ {a b : En}, (a.blk ≠ b.blk ∧ ∀ g, a.val.ownBlock = some g → b.val.ownBlock ≠ some g) → (b.blk ≠ a.blk ∧ ∀ g, b.val.ownBlock = some g → a.val.ownBlock ≠ some g) := fun q => ⟨fun z => q.1 z.symm, fun g h1 h2 => q.2 g h2 h1⟩
    exact pw_any sym h.apart hx hm hxe
  have hmn : ∀ x ∈ es, x.blk ≠ m := fun x hx q => h.map.notBlk (h.file x hx).1 q
  have hrm : ∀ x ∈ es, ∀ g, x.val.ownBlock = some g → g ≠ m := by
    rintro x hx g hg rfl
    obtain ⟨cur, hq⟩ := hrow x hx g hg
    obtain ⟨D, ⟨y, c, q6, _⟩, _⟩ := h.map
    rw [hq] at q6
    cases q6
  have hmd : m ≠ d := fun q => h.map.notBlk h.box q.symm
  refine ⟨hbox, (h.map.same (hoth m h.own.2.1 (fun q => hmn e hm q.symm) hmd (fun q => hrm e hm m q rfl))).upd (hn.trans hs) (fun x hx q => by rw [one_nm h.names hf hx q, hbl]), ?_, ?_, updE_names (hn.trans hs) h.names, ⟨.inl h.own.1, .inl h.own.2.1, ?_⟩, ?_⟩
  · intro x hx
    unfold updE at hx
    obtain ⟨x0, hx0, rfl⟩ := List.mem_map.1 hx
    by_cases q : x0.nm = s
    · rw [if_pos q, hbl]; exact ⟨hfile, hJ⟩
    · rw [if_neg q]
      obtain ⟨a1, a2⟩ := hap x0 hx0 q
      refine ⟨(hoth _ (h.own.2.2 x0 hx0).1 a1 (hnd x0 hx0) (fun z => hrf e hm x0 hx0 _ z rfl)).trans (h.file x0 hx0).1, ?_⟩
      obtain ⟨q0, q1, ⟨q2, q3⟩ | ⟨g, cap, cur, q2, q3, q4, q5⟩⟩ := (h.file x0 hx0).2
      · exact ⟨q0, q1, .inl ⟨q2, q3⟩⟩
      · have hgo : x0.val.ownBlock = some g := by rw [q2]; rfl
        exact ⟨q0, q1, .inr ⟨g, cap, cur, q2, q3, (hoth g ((h.own.2.2 x0 hx0).2 g hgo) (hrf x0 hx0 e hm g hgo) (hrd x0 hx0 g hgo) (a2 g hgo)).trans q4, q5⟩⟩
  · unfold updE
    rw [List.pairwise_map]
    refine List.Pairwise.imp_of_mem ?_ (h.apart.and h.names)
    rintro a b ha hb ⟨hab, habn⟩
    by_cases qa : a.nm = s
    · have qb : b.nm ≠ s := fun q => habn (qa.trans q.symm)
      rw [if_pos qa, if_neg qb, hbl]
      obtain ⟨a1, a2⟩ := hap b hb qb
      refine ⟨fun z => a1 z.symm, fun g hg z => ?_⟩
      rcases hnew g hg with z2 | z2
      · exact a2 g z z2
      · obtain ⟨cur, hq⟩ := hrow b hb g z
        have := (Array.getElem?_eq_some_iff.1 hq).1
        omega
    · rw [if_neg qa]
      by_cases qb : b.nm = s
      · rw [if_pos qb, hbl]
        obtain ⟨a1, a2⟩ := hap a ha qa
        refine ⟨a1, fun g hg z => ?_⟩
        rcases hnew g z with z2 | z2
        · exact a2 g hg z2
        · obtain ⟨cur, hq⟩ := hrow a ha g hg
          have := (Array.getElem?_eq_some_iff.1 hq).1
          omega
      · rw [if_neg qb]; exact hab
  · intro x hx
    unfold updE at hx
    obtain ⟨x0, hx0, rfl⟩ := List.mem_map.1 hx
    by_cases q : x0.nm = s
    · rw [if_pos q, hbl]; exact ⟨.inl (h.own.2.2 e hm).1, fun g z => .inr z⟩
    · rw [if_neg q]; exact ⟨.inl (h.own.2.2 x0 hx0).1, fun g z => .inl ((h.own.2.2 x0 hx0).2 g z)⟩
  · intro b q
    rcases q with q | q
    · exact Nat.lt_of_lt_of_le (h.olt b q) hsz
    · obtain ⟨_, _, ⟨q2, _⟩ | ⟨g', cap, cur, q2, _, q4, _⟩⟩ := hJ
      · rw [q2] at q; cases q
      · rw [q2] at q
        have : g' = b := by simpa [Value.ownBlock] using q
        subst this
        exact (Array.getElem?_eq_some_iff.1 q4).1
/-- of the files that have been gone over (those that are no longer to come) a sum -/
def gone (lf : Lit → Bool) (f : En → Nat) (es : List En) : Nat := (es.map fun e => if lf (kl e.nm) then 0 else f e).sum
def strike (lf : Lit → Bool) (k : Lit) : Lit → Bool := fun z => lf z && !z.sameKey k
theorem strike_same {lf : Lit → Bool} {s : ByteArray} (hs : s.size ≤ maxLen) : strike lf (kl s) (kl s) = false := by
  unfold strike
  rw [WideAt.sameKey_self (kl_is hs)]; simp
theorem strike_other {lf : Lit → Bool} {s t : ByteArray} (h : t ≠ s) : strike lf (kl s) (kl t) = lf (kl t) := by
  unfold strike
  rw [Maps.sameKey_ne (fun q => h (kl_inj q))]; simp
theorem gone_step {lf : Lit → Bool} {f : En → Nat} {es : List En} (hn : es.Pairwise fun a b => a.nm ≠ b.nm) {s : ByteArray} {e : En} (hf : fnd es s = some e) (hs : s.size ≤ maxLen) (hl : lf (kl s) = true) : gone (strike lf (kl s)) f es = gone lf f es + f e := by
  induction es with
  | nil => cases hf
  | cons a r ih =>
    rw [List.pairwise_cons] at hn
    unfold fnd at hf
    rw [List.find?_cons] at hf
    unfold gone
    rw [List.map_cons, List.map_cons, List.sum_cons, List.sum_cons]
    by_cases ea : a.nm = s
    · simp [ea] at hf
      subst hf
      rw [ea, strike_same hs, hl]
      have : (r.map fun e => if strike lf (kl s) (kl e.nm) = true then 0 else f e) = r.map fun e => if lf (kl e.nm) = true then 0 else f e := by
        refine List.map_congr_left fun x hx => ?_
        rw [strike_other (fun q => hn.1 x hx (ea.trans q.symm))]
      rw [this]
      simp; omega
    · simp only [ea, decide_false] at hf
      have := ih hn.2 hf
      unfold gone at this
      rw [strike_other ea, this]; omega
theorem gone_none {lf : Lit → Bool} {f : En → Nat} {es : List En} (h : ∀ e ∈ es, lf (kl e.nm) = true) : gone lf f es = 0 := by
  unfold gone
  induction es with
  | nil => rfl
  | cons a r ih =>
    rw [List.map_cons, List.sum_cons, h a (List.mem_cons_self ..), ih fun e he => h e (List.mem_cons_of_mem _ he)]
    rfl
theorem gone_all {lf : Lit → Bool} {f : En → Nat} {es : List En} (h : ∀ k, lf k = false) : gone lf f es = (es.map f).sum := by
  unfold gone
  congr 1
  refine List.map_congr_left fun x _ => ?_
  rw [h]; rfl
theorem gone_le {lf : Lit → Bool} {f g : En → Nat} {es : List En} (h : ∀ e ∈ es, f e ≤ g e) : gone lf f es ≤ (es.map g).sum := by
  unfold gone
  induction es with
  | nil => exact Nat.le_refl _
  | cons a r ih =>
    rw [List.map_cons, List.map_cons, List.sum_cons, List.sum_cons]
    have h1 := h a (List.mem_cons_self ..)
    have h2 := ih fun e he => h e (List.mem_cons_of_mem _ he)
    split <;> omega
/-- the files, some of which have been gone over -/
def crs (keep : Int) (lf : Lit → Bool) (es : List En) : List Fi := es.map fun e => if lf (kl e.nm) then e.fi else crashed keep e.fi
theorem crs_nm (keep : Int) (lf : Lit → Bool) (e : En) : (if lf (kl e.nm) then e.fi else crashed keep e.fi).nm = e.nm := by split <;> rfl
theorem crs_step {keep : Int} {lf : Lit → Bool} {es : List En} {s : ByteArray} (hs : s.size ≤ maxLen) (hl : lf (kl s) = true) : upd (crs keep lf es) s (crashed keep) = crs keep (strike lf (kl s)) es := by
  unfold upd crs
  rw [List.map_map]
  refine List.map_congr_left fun x _ => ?_
  simp only [Function.comp]
  rw [crs_nm]
  by_cases e : x.nm = s
  · rw [if_pos e, e, strike_same hs, hl]; rfl
  · rw [if_neg e, strike_other e]
theorem crs_start {keep : Int} {lf : Lit → Bool} {es : List En} (h : ∀ e ∈ es, lf (kl e.nm) = true) : crs keep lf es = es.map En.fi := by
  unfold crs
  refine List.map_congr_left fun x hx => ?_
  rw [h x hx]; rfl
theorem crs_end {keep : Int} {lf : Lit → Bool} {es : List En} (h : ∀ k, lf k = false) : crs keep lf es = (es.map En.fi).map (crashed keep) := by
  unfold crs
  rw [List.map_map]
  refine List.map_congr_left fun x _ => ?_
  rw [h]; rfl
/-- two lists of the same files, as far as names and blocks go -/
theorem fnd_blk {es es' : List En} (h1 : es'.map En.blk = es.map En.blk) (h2 : es'.map En.nm = es.map En.nm) (s : ByteArray) : (fnd es' s).map En.blk = (fnd es s).map En.blk := by
  induction es generalizing es' with
  | nil => cases es' with
    | nil => rfl
    | cons a r => cases h1
  | cons b q ih => cases es' with
    | nil => cases h1
    | cons a r =>
      rw [List.map_cons, List.map_cons] at h1 h2
      injection h1 with h1a h1b
      injection h2 with h2a h2b
      unfold fnd at ih ⊢
      rw [List.find?_cons, List.find?_cons, h2a]
      by_cases e : b.nm = s
      · simp [e, h1a]
      · simp only [e, decide_false]; exact ih h1b h2b
end Dk
end Go.Proofs.YtolddolfpnkndaaGreat
