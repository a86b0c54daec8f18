/-
  THE REFERENCE OF LAYER 4: opened of any body.
-/
import Derived.Test.YtnjhbidialngmaaXhba
namespace Go.Proofs.Ytnjhbidialngmaa
open Go.RowKit
namespace Vt
attribute [local go_sem] Oper.semAt_some
set_option maxRecDepth 100000 in
set_option maxHeartbeats 2000000 in
theorem opened_other (b off c k : Nat) (s : List Nat) (w : World) (hI : IsB w (.slice (some ⟨b, off, none⟩) (k :: s).length c) (k :: s)) (hm : (k :: s).length ≤ 4194304) (hk : k ≠ 1 ∧ k ≠ 2 ∧ k ≠ 3 ∧ k ≠ 4) :
    Calls Try.prog 87 #[.slice (some ⟨b, off, none⟩) (k :: s).length c] w fun e w' => opR (k :: s) e ∧ Below w.heap.size w w' := by
  have hmx : Try.prog.follows .mixedOrders = true := by kernel_rfl
  have r0 := hI.row 0 (by simp)
  rw [Nat.add_zero] at r0
  have r0' : w.cell? ⟨b, off, none⟩ = some (.int .u8 (k : Int)) := r0
  have hbw : b < w.heap.size := lt_of_cell r0'
  have HI := hd hI
  clear r0 hI
  obtain ⟨L, hL⟩ : ∃ L, L = (k :: s).length := ⟨_, rfl⟩
  have hL1 : 1 ≤ L := by rw [hL]; simp
  have hL0 : ((L : Int) == 0) = false := by rw [beq_eq_false_iff_ne]; omega
  rw [← hL] at hm HI ⊢
  have HLL := hd hL
  clear hL
  have hkb : k < 256 := HI.out.1 k List.mem_cons_self
  have q1 : ((k : Int) == 1) = false := by rw [beq_eq_false_iff_ne]; omega
  have q2 : ((k : Int) == 2) = false := by rw [beq_eq_false_iff_ne]; omega
  have q3 : ((k : Int) == 3) = false := by rw [beq_eq_false_iff_ne]; omega
  have q4 : ((k : Int) == 4) = false := by rw [beq_eq_false_iff_ne]; omega
  have HNO : Hid (∀ f, ¬ Bdy (k :: s) f) := fun f hf => by
    rcases hf.kind with ⟨_, e, _⟩ | ⟨_, e, _⟩ | ⟨_, e, _⟩ | ⟨_, e, _⟩ <;> (injection e with e; omega)
  have HMAY := hd (fun w => may_none (k : Int) w q1 q2 q3 q4)
  clear hk
  by_cases hlt : 1 < L
  · have hlt' : (1 : Int) < (L : Int) := by omega
    go_enter Try.func87, Try.ntmps87
    go_wp2_with fail
    refine bodyPost_ret (results_cell2 rfl _ _ w.heap.size 34 #[.int .i64 0, .int .u64 0, .int .i64 0, .string ⟨#[]⟩, .string ⟨#[]⟩, .int .u64 0, .int .i64 0, .int .i64 0, .int .i64 0, .string ⟨#[]⟩, .int .i64 0, .int .i64 0, .int .i64 0, .int .u32 0] (0, 0) _ rfl (rs_start w _ _ [.int .i64 0, .int .u64 0, .int .i64 0, .string ⟨#[]⟩, .string ⟨#[]⟩, .int .u64 0, .int .i64 0, .int .i64 0, .int .i64 0, .string ⟨#[]⟩, .int .i64 0, .int .i64 0, .int .i64 0, .int .u32 0]) Try.underlying34 rfl (by kernel_rfl)) rfl ?_
    exact ⟨.inr ⟨HNO.out, rfl⟩, st_below w _ _ _⟩
  · have hlt' : ¬ (1 : Int) < (L : Int) := by omega
    go_enter Try.func87, Try.ntmps87
    go_wp2_with fail
    refine Calls.mono (HMAY.out _) ?_
    rintro e w5 ⟨rfl, hb⟩
    have HR5 := hd ((rs_start w _ _ [.int .i64 0, .int .u64 0, .int .i64 0, .string ⟨#[]⟩, .string ⟨#[]⟩, .int .u64 0, .int .i64 0, .int .i64 0, .int .i64 0, .string ⟨#[]⟩, .int .i64 0, .int .i64 0, .int .i64 0, .int .u32 0]).keep hb)
    have HB5 := hd ((st_below w _ _ _).trans (hb.mono (st_below w _ _ _).size))
    clear hb
    obtain ⟨N, hN⟩ : ∃ N, N = w.heap.size := ⟨_, rfl⟩
    rw [← hN] at HR5 HB5 ⊢
    have HN := hd hN
    clear hN
    have y0 := HR5.out.cell 0 _ rfl
    have yz0 := HR5.out.frozen 0
    have y1 := HR5.out.cell 1 _ rfl
    have yz1 := HR5.out.frozen 1
    have y2 := HR5.out.cell 2 _ rfl
    have yz2 := HR5.out.frozen 2
    have y3 := HR5.out.cell 3 _ rfl
    have yz3 := HR5.out.frozen 3
    have y4 := HR5.out.cell 4 _ rfl
    have yz4 := HR5.out.frozen 4
    have y5 := HR5.out.cell 5 _ rfl
    have yz5 := HR5.out.frozen 5
    have y6 := HR5.out.cell 6 _ rfl
    have yz6 := HR5.out.frozen 6
    have y7 := HR5.out.cell 7 _ rfl
    have yz7 := HR5.out.frozen 7
    have y8 := HR5.out.cell 8 _ rfl
    have yz8 := HR5.out.frozen 8
    have y9 := HR5.out.cell 9 _ rfl
    have yz9 := HR5.out.frozen 9
    have y10 := HR5.out.cell 10 _ rfl
    have yz10 := HR5.out.frozen 10
    have y11 := HR5.out.cell 11 _ rfl
    have yz11 := HR5.out.frozen 11
    have y12 := HR5.out.cell 12 _ rfl
    have yz12 := HR5.out.frozen 12
    have y13 := HR5.out.cell 13 _ rfl
    have yz13 := HR5.out.frozen 13
    go_wp2_with fail
    refine bodyPost_ret (results_cell2 rfl _ _ N 34 #[.int .i64 0, .int .u64 0, .int .i64 0, .string ⟨#[]⟩, .string ⟨#[]⟩, .int .u64 0, .int .i64 0, .int .i64 0, .int .i64 0, .string ⟨#[]⟩, .int .i64 0, .int .i64 0, .int .i64 0, .int .u32 0] (0, 0) _ rfl (setL_blk [.int .i64 0, .int .u64 0, .int .i64 0, .string ⟨#[]⟩, .string ⟨#[]⟩, .int .u64 0, .int .i64 0, .int .i64 0, .int .i64 0, .string ⟨#[]⟩, .int .i64 0, .int .i64 0, .int .i64 0, .int .u32 0] _ 0 [] [.int .i64 0, .int .u64 0, .int .i64 0, .string ⟨#[]⟩, .string ⟨#[]⟩, .int .u64 0, .int .i64 0, .int .i64 0, .int .i64 0, .string ⟨#[]⟩, .int .i64 0, .int .i64 0, .int .i64 0, .int .u32 0] rfl rfl HR5.out) Try.underlying34 rfl (by kernel_rfl)) rfl ?_
    refine ⟨.inr ⟨HNO.out, rfl⟩, ?_⟩
    have hNN := HN.out
    exact (setL_keepO (B := N) (O := N) [.int .i64 0, .int .u64 0, .int .i64 0, .string ⟨#[]⟩, .string ⟨#[]⟩, .int .u64 0, .int .i64 0, .int .i64 0, .int .i64 0, .string ⟨#[]⟩, .int .i64 0, .int .i64 0, .int .i64 0, .int .u32 0] _ w 0 (by omega) (KeepO.of_below (hNN ▸ HB5.out))).below (by omega) (Nat.le_refl _)

set_option maxRecDepth 100000 in
theorem opened_nil (a : Option Addr) (c : Nat) (w : World) : Calls Try.prog 87 #[.slice a 0 c] w fun e w' => opR [] e ∧ Below w.heap.size w w' := by
  have HNO : Hid (∀ f, ¬ Bdy [] f) := fun f hf => by
    rcases hf.kind with ⟨_, e, _⟩ | ⟨_, e, _⟩ | ⟨_, e, _⟩ | ⟨_, e, _⟩ <;> cases e
  go_enter Try.func87, Try.ntmps87
  go_wp2_with fail
  refine bodyPost_ret (results_cell2 rfl _ _ w.heap.size 34 #[.int .i64 0, .int .u64 0, .int .i64 0, .string ⟨#[]⟩, .string ⟨#[]⟩, .int .u64 0, .int .i64 0, .int .i64 0, .int .i64 0, .string ⟨#[]⟩, .int .i64 0, .int .i64 0, .int .i64 0, .int .u32 0] (0, 0) _ rfl (Blk.new w 34 [.int .i64 0, .int .u64 0, .int .i64 0, .string ⟨#[]⟩, .string ⟨#[]⟩, .int .u64 0, .int .i64 0, .int .i64 0, .int .i64 0, .string ⟨#[]⟩, .int .i64 0, .int .i64 0, .int .i64 0, .int .u32 0]) Try.underlying34 rfl (by kernel_rfl)) rfl ?_
  exact ⟨.inr ⟨HNO.out, rfl⟩, (Below.refl _ w).alloc (Nat.le_refl _) _⟩
/-- 'opened' of any body -/
theorem r4_opened (v : Value) (l : List Nat) (w : World) (hI : IsB w v l) (hm : l.length ≤ 4194304) : Calls Try.prog 87 #[v] w fun e w' => opR l e ∧ Below w.heap.size w w' := by
  have hI' := hI
  obtain ⟨_, _, ⟨rfl, a, c, rfl⟩ | ⟨b, off, c, rfl, _⟩⟩ := hI
  · exact opened_nil a c w
  · cases l with
    | nil => exact opened_nil _ c w
    | cons k s =>
      by_cases h1 : k = 1
      · subst h1; exact opened_put b off c s w hI' hm
      · by_cases h2 : k = 2
        · subst h2; exact opened_del b off c s w hI' hm
        · by_cases h3 : k = 3
          · subst h3; exact opened_hint b off c s w hI' hm
          · by_cases h4 : k = 4
            · subst h4; exact opened_foot b off c s w hI' hm
            · exact opened_other b off c k s w hI' hm ⟨h1, h2, h3, h4⟩
end Vt
end Go.Proofs.Ytnjhbidialngmaa
