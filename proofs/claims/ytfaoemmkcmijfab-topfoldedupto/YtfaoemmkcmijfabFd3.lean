/-
  THE WALK OF keydir.Live.
-/
import Derived.Test.YtfaoemmkcmijfabFd2
namespace Go.Proofs.Ytfaoemmkcmijfab
open Go.RowKit Go.Maps Go.Sort
namespace Fd
open Vt
attribute [local go_sem ↓] append_hid
abbrev TPr : TypeId := 36
def RcOk (rs : List Rec) : Prop := ∀ r ∈ rs, r.lsn < 18446744073709551616 ∧ r.key.size ≤ maxLen
theorem isR_of {w : World} {base : Nat} {v : Value} {rs : List Rec} (h : JR TR 4 w base v (rs.map rcl)) (hr : RcOk rs) : IsR w v rs := by
  refine ⟨hr, ?_⟩
  by_cases h0 : rs = []
  · subst h0
    obtain ⟨a, c, hv, _⟩ := h.shape
    exact .inl ⟨rfl, a, c, hv⟩
  · obtain ⟨g, c, hv, hc, hm⟩ := h.nn (by simpa using h0)
    rw [List.length_map] at hv hc
    subst hv
    refine .inr ⟨g, 0, c, rfl, hc, hm, h.blk_lt g rfl, fun i r hi j u hu => ?_⟩
    rw [Nat.zero_add]
    exact h.at i (rcl r) j u (by rw [List.getElem?_map, hi]; rfl) hu
theorem Cnt.ok {l es : List Rec} (h : Cnt l es) (hr : RcOk l) : RcOk es := fun e he => hr e (h.mem e he)
def pcl (r : Rec) : List Value := [.string r.key, .string r.val]
def liv (es : List Rec) : List Rec := es.filter fun r => decide (r.kind = 1)
theorem info_pair : (Try.prog.info? TPr).map (fun i => (i.zero, i.size, i.bytes)) = some (some (.agg #[.string ⟨#[]⟩, .string ⟨#[]⟩]), 2, 32) := by kernel_rfl
theorem push2_is {base : Nat} {wq wx : World} {va : Value} {ls : List (List Value)} (hJ : JR TPr 2 wq base va ls) (hb : base ≤ wq.heap.size) (r : Rec) (hwx : wx = wq.alloc (.cells #[.string r.key, .string r.val] TPr)) (hl : ls.length ≤ 2199023255552) :
    ∃ g cap w5, (Builtin.append_ #[33, 33] 33 #[va, .slice (some ⟨wq.heap.size, 0, none⟩) 1 1]).run Try.prog wx = .ok (.slice (some ⟨g, 0, none⟩) (ls.length + 1) cap) w5 ∧ JR TPr 2 w5 base (.slice (some ⟨g, 0, none⟩) (ls.length + 1) cap) (ls ++ [pcl r]) ∧ Below base wq w5 := by
  have hJx : JR TPr 2 wx base va ls := by rw [hwx]; exact hJ.alloc _
  have hBx : Blk wx wq.heap.size TPr (pcl r) := by rw [hwx]; exact Blk.new wq TPr (pcl r)
  have hsx : wx.heap.size = wq.heap.size + 1 := by rw [hwx]; simp
  have hkx : ∀ b, b < wq.heap.size → wx.heap[b]? = wq.heap[b]? := fun b hb' => by rw [hwx]; exact (MapKept.heap_alloc wq _).2 b hb'
  obtain ⟨g, cap, w5, e1, h2, h3, _⟩ := run_append_jr (S := 33) Try.underlying33 info_pair rfl (by decide) 33 wx base va ls hJx wq.heap.size 1 (pcl r) rfl (by intro u hu; simp [pcl] at hu; rcases hu with rfl | rfl <;> rfl) (fun j u hu => hBx.cell j u hu) (by omega) (by unfold maxLen; omega) (by omega)
  refine ⟨g, cap, w5, e1, h2, ⟨h3.os.trans (by rw [hwx]; rfl), h3.tape.trans (by rw [hwx]; rfl), h3.output.trans (by rw [hwx]; rfl), by have := h3.size; omega, fun j hj => ?_⟩⟩
  exact (h3.block j (by omega) (fun q => by have := hJ.blk_ge j q.symm; omega)).trans (hkx j (by omega))
set_option maxRecDepth 100000 in
set_option maxHeartbeats 1000000 in
theorem live_is (w : World) (v : Value) (rs : List Rec) (h : IsR w v rs) (hl : rs.length ≤ 1099511627776) :
    Calls Try.prog 6 #[v] w fun x w' => ∃ u es, x = .returned u ∧ Cnt rs es ∧ Srt es ∧ es.length ≤ rs.length ∧ JR TPr 2 w' w.heap.size u ((liv es).map pcl) ∧ Below w.heap.size w w' := by
  have HF := hd (fold_is w v rs h hl)
  have hok : RcOk rs := h.1
  have HOK := hd hok
  obtain ⟨av, cv, rfl⟩ := h.shape
  clear h hok
  go_enter Try.func6, Try.ntmps6
  go_wp2_with fail
  refine Calls.mono HF.out ?_
  rintro x w1 ⟨u, es, rfl, hC, hS, hle, hJ, hb⟩
  have hI := isR_of hJ (hC.ok HOK.out)
  have hel : es.length ≤ 1099511627776 := Nat.le_trans hle hl
  obtain ⟨au, cu, rfl⟩ := hI.shape
  have HC := hd hC; have HS := hd hS; have HI := hd hI; have HB := hd hb
  clear hC hS hI hJ hb HF
  go_wp2_with fail
  go_loopw [3, 9] (fun va i wq => ∃ k : Nat, k ≤ es.length ∧ i = .int .i64 (k : Int) ∧ JR TPr 2 wq w1.heap.size va ((liv (es.take k)).map pcl) ∧ Below w1.heap.size w1 wq) (fun _ i _ => es.length - (intOf i).toNat)
  case atStart => exact ⟨0, by omega, rfl, jr_nil _ _, Below.refl _ _⟩
  case round =>
    obtain ⟨k, hk, rfl, hJ, hbq⟩ := hrel
    have HJ := hd hJ; have HBq := hd hbq
    clear hJ hbq
    by_cases hlt : k < es.length
    · obtain ⟨r, hr⟩ : ∃ r, es[k]? = some r := ⟨_, List.getElem?_eq_getElem hlt⟩
      rcases (HI.out.below HBq.out).2 with ⟨rfl, _⟩ | ⟨b, off, c, he, hlc, hcm, hbl, hop⟩
      · simp at hlt
      injection he with he1 he2 he3
      subst he1 he3
      have c0 : wr.cell? ⟨b, off + k * 4, none⟩ = some (.int .u64 (r.lsn : Int)) := hop k r hr 0 _ rfl
      have c1 := hop k r hr 1 _ rfl
      have c2 := hop k r hr 2 _ rfl
      have c3 := hop k r hr 3 _ rfl
      have htk : es.take (k + 1) = es.take k ++ [r] := by rw [List.take_add_one, hr]; rfl
      have hvl : ((liv (es.take k)).map pcl).length ≤ k := by
        rw [List.length_map]
        exact Nat.le_trans (List.length_filter_le _ _) (by rw [List.length_take]; omega)
      obtain ⟨wx, hwx⟩ : ∃ wx, wx = wr.alloc (.cells #[.int .u64 (r.lsn : Int), .int .i64 r.kind, .string r.key, .string r.val] TR) := ⟨_, rfl⟩
      have hbx : Below w1.heap.size w1 wx := by rw [hwx]; exact HBq.out.alloc HBq.out.size _
      have hJx : JR TPr 2 wx w1.heap.size u3 ((liv (es.take k)).map pcl) := by rw [hwx]; exact HJ.out.alloc _
      have hsx : wx.heap.size = wr.heap.size + 1 := by rw [hwx]; simp
      by_cases h1 : r.kind = 1
      · obtain ⟨wy, hwy⟩ : ∃ wy, wy = wx.alloc (.cells #[.string r.key, .string r.val] TPr) := ⟨_, rfl⟩
        obtain ⟨g5, c5, w5, hr5, hJ5, hb5⟩ := push2_is hJx hbx.size r hwy (by omega)
        rw [append_hid, hwy, hsx, hwx] at hr5
        have HREL : Hid (JR TPr 2 w5 w1.heap.size (.slice (some ⟨g5, 0, none⟩) (((liv (es.take k)).map pcl).length + 1) c5) ((liv (es.take (k + 1))).map pcl) ∧ Below w1.heap.size w1 w5) := by
          refine ⟨?_, bel_tr hbx hb5⟩
          rw [htk]
          unfold liv at hJ5 ⊢
          rw [List.filter_append, List.map_append]
          simp only [List.filter_cons, h1, decide_true, if_true, List.filter_nil, List.map_cons, List.map_nil]
          exact hJ5
        generalize ((liv (es.take k)).map pcl).length = vl at *
        rw [h1] at c1 hr5
        clear hJ5 hb5 hwx hwy hbx hJx hsx htk hop
        go_wp2_with fail
        go_roundw
        case rel => exact ⟨k + 1, by omega, by go_num, HREL.out⟩
        case measure => simp [intOf]; omega
      · have HREL : Hid (JR TPr 2 wx w1.heap.size u3 ((liv (es.take (k + 1))).map pcl) ∧ Below w1.heap.size w1 wx) := by
          refine ⟨?_, hbx⟩
          rw [htk]
          unfold liv at hJx ⊢
          rw [List.filter_append, List.map_append]
          simp only [List.filter_cons, h1, decide_false, Bool.false_eq_true, if_false, List.filter_nil, List.map_nil, List.append_nil]
          exact hJx
        rw [hwx] at HREL
        have h1b : (r.kind == 1) = false := by rw [beq_eq_false_iff_ne]; exact h1
        clear hwx hbx hJx hsx htk hop
        go_wp2_with fail
        go_roundw
        case rel => exact ⟨k + 1, by omega, by go_num, HREL.out⟩
        case measure => simp [intOf]; omega
    · obtain rfl : es.length = k := by omega
      rw [List.take_length] at HJ
      have HE : Hid (JR TPr 2 wr w.heap.size u3 ((liv es).map pcl) ∧ Below w.heap.size w wr) := ⟨HJ.out.lower HB.out.size, bel_tr HB.out (bel_le HBq.out HB.out.size)⟩
      go_wp2_with fail
      go_ret
      exact ⟨_, es, rfl, HC.out, HS.out, hle, HE.out⟩
end Fd
end Go.Proofs.Ytfaoemmkcmijfab
