/-
  FILES AS THE THEOREM SEES THEM (desks) IN MEMORY; the walks of find, without.
-/
import Derived.Test.YtpjfoinkifkdoaaMu
import Derived.Test.YtpjfoinkifkdoaaDk1
namespace Go.Proofs.Ytpjfoinkifkdoaa
open Go.RowKit Go.Maps
namespace Tl
open Vt Dk
def apO (ats : Array TypeId) (ty : TypeId) (args : Array Value) : Sem Value := Builtin.append_ ats ty args
theorem append_hid (ats : Array TypeId) (ty : TypeId) (args : Array Value) : Builtin.append_ ats ty args = apO ats ty args := rfl
abbrev TK : TypeId := 31
/-- a desk: a file, and the value of its bytes -/
abbrev De := Fi × Option Addr × Nat
def dcl (c : De) : List Value := [.string c.1.nm, .slice c.2.1 c.1.dat.length c.2.2, .int .i64 (c.1.las : Int)]
theorem bel_tr {B : Nat} {a b c : World} (h : Below B a b) (k : Below B b c) : Below B a c := ⟨k.os.trans h.os, k.tape.trans h.tape, k.output.trans h.output, Nat.le_trans h.size k.size, fun j hj => (k.block j hj).trans (h.block j hj)⟩
theorem bel_le {B B' : Nat} {a b : World} (h : Below B' a b) (hB : B ≤ B') : Below B a b := ⟨h.os, h.tape, h.output, h.size, fun j hj => h.block j (by omega)⟩
def ix (cs : List De) (s : ByteArray) : Option Nat := cs.findIdx? fun c => decide (c.1.nm = s)
def ixI (cs : List De) (s : ByteArray) : Int := ((ix cs s).map fun k : Nat => (k : Int)).getD (-1)
theorem ix_some {cs : List De} {s : ByteArray} {k : Nat} (h : ix cs s = some k) : ∃ c, cs[k]? = some c ∧ c.1.nm = s ∧ ∀ j x, j < k → cs[j]? = some x → x.1.nm ≠ s := by
  unfold ix at h
  obtain ⟨hk, h1, h2⟩ := List.findIdx?_eq_some_iff_getElem.1 h
  refine ⟨cs[k], List.getElem?_eq_getElem hk, by simpa using h1, fun j x hj hx => ?_⟩
  have := h2 j hj
  obtain ⟨hjl, rfl⟩ := List.getElem?_eq_some_iff.1 hx
  simpa using this
theorem ix_none {cs : List De} {s : ByteArray} (h : ix cs s = none) : ∀ x ∈ cs, x.1.nm ≠ s := by
  unfold ix at h
  rw [List.findIdx?_eq_none_iff] at h
  intro x hx
  simpa using h x hx
theorem JR.nth {w : World} {base : Nat} {a : Option Addr} {n c : Nat} {cs : List De} (h : JR TK 3 w base (.slice a n c) (cs.map dcl)) {k : Nat} {x : De} (hk : cs[k]? = some x) : ∃ g, a = some ⟨g, 0, none⟩ ∧ n = cs.length ∧ n ≤ c ∧ c ≤ maxLen ∧ w.cell? ⟨g, k * 3, none⟩ = some (.string x.1.nm) ∧ w.cell? ⟨g, k * 3 + 1, none⟩ = some (.slice x.2.1 x.1.dat.length x.2.2) ∧ w.cell? ⟨g, k * 3 + 2, none⟩ = some (.int .i64 (x.1.las : Int)) := by
  have hne : cs.map dcl ≠ [] := by intro e; have := List.map_eq_nil_iff.1 e; subst this; simp at hk
  obtain ⟨g, c', hv, hc, hm⟩ := h.nn hne
  rw [List.length_map] at hv hc
  injection hv with h1 h2 h3
  subst h1 h2 h3
  have hat : ∀ j u, (dcl x)[j]? = some u → w.cell? ⟨g, k * 3 + j, none⟩ = some u := fun j u hu => h.at k (dcl x) j u (by rw [List.getElem?_map, hk]; rfl) hu
  exact ⟨g, rfl, rfl, hc, hm, hat 0 _ rfl, hat 1 _ rfl, hat 2 _ rfl⟩
theorem str_ne {a b : ByteArray} (h : a ≠ b) : (a.toList == b.toList) = false := by
  rw [beq_eq_false_iff_ne, ByteArray.toList_eq, ByteArray.toList_eq]
  intro e
  exact h (Go.WideShapes.bytes_inj e)
theorem str_yes {a b : ByteArray} (h : a = b) : (a.toList == b.toList) = true := by subst h; simp
theorem ixI_at {cs : List De} {s : ByteArray} {k : Nat} {x : De} (hx : cs[k]? = some x) (hn : x.1.nm = s) (hb : ∀ (j : Nat) (y : De), j < k → cs[j]? = some y → y.1.nm ≠ s) : ixI cs s = (k : Int) := by
  have : ix cs s = some k := by
    unfold ix
    rw [List.findIdx?_eq_some_iff_getElem]
    obtain ⟨hk, rfl⟩ := List.getElem?_eq_some_iff.1 hx
    exact ⟨hk, by simpa using hn, fun j hj => by simpa using hb j _ hj (List.getElem?_eq_getElem (by omega))⟩
  unfold ixI
  rw [this]; rfl
theorem ixI_none {cs : List De} {s : ByteArray} (h : ∀ x ∈ cs, x.1.nm ≠ s) : ixI cs s = -1 := by
  have : ix cs s = none := by
    unfold ix
    rw [List.findIdx?_eq_none_iff]
    intro x hx
    simpa using h x hx
  unfold ixI
  rw [this]; rfl
set_option maxRecDepth 100000 in
set_option maxHeartbeats 1000000 in
theorem find_is (w : World) (base : Nat) (v : Value) (cs : List De) (s : ByteArray) (h : JR TK 3 w base v (cs.map dcl)) (hl : cs.length ≤ 1099511627776) :
    Calls Try.prog 10 #[v, .string s] w fun e w' => e = .returned (.int .i64 (ixI cs s)) ∧ w' = w := by
  obtain ⟨a, c, rfl, _⟩ := h.shape
  rw [List.length_map] at h ⊢
  have HJ := hd h
  clear h
  go_enter Try.func10, Try.ntmps10
  go_wp2_with fail
  go_loopw [5] (fun i wr => ∃ k : Nat, k ≤ cs.length ∧ i = .int .i64 (k : Int) ∧ wr = w ∧ ∀ (j : Nat) (x : De), j < k → cs[j]? = some x → x.1.nm ≠ s) (fun i _ => cs.length - (intOf i).toNat)
  case atStart => exact ⟨0, by omega, rfl, rfl, fun j x hj => by omega⟩
  case round =>
    obtain ⟨k, hk, rfl, hwr, hbf⟩ := hrel
    obtain rfl := hwr
    have HBF := hd hbf
    clear hbf
    by_cases hlt : k < cs.length
    · obtain ⟨x, hx⟩ : ∃ x, cs[k]? = some x := ⟨_, List.getElem?_eq_getElem hlt⟩
      obtain ⟨g, hg, _, hn1, hn2, c0, c1, c2⟩ := JR.nth HJ.out hx
      subst hg
      by_cases hn : x.1.nm = s
      · have hb := str_yes hn
        have HIX := hd (ixI_at hx hn HBF.out)
        go_wp2_with fail
        go_ret
        exact ⟨by rw [HIX.out]; rfl, rfl⟩
      · have hb := str_ne hn
        have HREL : Hid (∀ (j : Nat) (y : De), j < k + 1 → cs[j]? = some y → y.1.nm ≠ s) := fun j y hj hy => by
          rcases Nat.lt_succ_iff_lt_or_eq.1 hj with q | q
          · exact HBF.out j y q hy
          · subst q
            rw [hx] at hy
            obtain rfl := Option.some.inj hy
            exact hn
        go_wp2_with fail
        go_roundw
        case rel => exact ⟨k + 1, by omega, by go_num, by first | rfl | trivial, HREL.out⟩
        case measure => simp [intOf]; omega
    · have HIX := hd (ixI_none (cs := cs) (s := s) fun x hx => by
        obtain ⟨j, hj, rfl⟩ := List.getElem_of_mem hx
        exact HBF.out j _ (by omega) (List.getElem?_eq_getElem hj))
      go_wp2_with fail
      go_ret
      exact ⟨by rw [HIX.out]; rfl, rfl⟩
/-- some but the k-th -/
def wo (cs : List De) (z : Int) : List De := (cs.zipIdx.filter fun p => decide ((p.2 : Int) ≠ z)).map Prod.fst
theorem wo_snoc (cs : List De) (c : De) (z : Int) : wo (cs ++ [c]) z = wo cs z ++ (if (cs.length : Int) = z then [] else [c]) := by
  unfold wo
  rw [List.zipIdx_append, List.filter_append, List.map_append]
  congr 1
  by_cases h : (cs.length : Int) = z
  · simp [h]
  · simp [h]
theorem info_desk : (Try.prog.info? TK).map (fun i => (i.zero, i.size, i.bytes)) = some (some (.agg #[.string ⟨#[]⟩, .slice none 0 0, .int .i64 0]), 3, 48) := by kernel_rfl
theorem dcl_one {c : De} : ∀ u ∈ dcl c, u.oneCell' = true := by
  intro u hu
  simp [dcl] at hu
  rcases hu with rfl | rfl | rfl <;> rfl
/-- one desk more behind a row of the call's own -/
theorem push_is {base : Nat} {wq wx : World} {va : Value} {ls : List De} (hJ : JR TK 3 wq base va (ls.map dcl)) (hb : base ≤ wq.heap.size) (c : De) (hwx : wx = wq.alloc (.cells #[.string c.1.nm, .slice c.2.1 c.1.dat.length c.2.2, .int .i64 (c.1.las : Int)] TK)) (hl : ls.length ≤ 1099511627776) :
    ∃ g cap w5, (apO #[32, 32] 32 #[va, .slice (some ⟨wq.heap.size, 0, none⟩) 1 1]).run Try.prog wx = .ok (.slice (some ⟨g, 0, none⟩) (ls.length + 1) cap) w5 ∧ JR TK 3 w5 base (.slice (some ⟨g, 0, none⟩) (ls.length + 1) cap) ((ls ++ [c]).map dcl) ∧
      Below base wq w5 ∧ (∀ b, b < wq.heap.size → va.ownBlock ≠ some b → w5.heap[b]? = wq.heap[b]?) ∧ (va.ownBlock = some g ∨ wq.heap.size ≤ g) := by
  have hJx : JR TK 3 wx base va (ls.map dcl) := by rw [hwx]; exact hJ.alloc _
  have hBx : Blk wx wq.heap.size TK (dcl c) := by rw [hwx]; exact Blk.new wq TK (dcl c)
  have hsx : wx.heap.size = wq.heap.size + 1 := by rw [hwx]; simp
  have hkx : ∀ b, b < wq.heap.size → wx.heap[b]? = wq.heap[b]? := fun b hb' => by rw [hwx]; exact (MapKept.heap_alloc wq _).2 b hb'
  obtain ⟨g, cap, w5, e1, h2, h3, h4⟩ := run_append_jr (S := 32) Try.underlying32 info_desk rfl (by decide) 32 wx base va (ls.map dcl) hJx wq.heap.size 1 (dcl c) rfl dcl_one (fun j u hu => hBx.cell j u hu) (by rw [List.length_map]; omega) (by rw [List.length_map]; unfold maxLen; omega) (by omega)
  rw [List.length_map] at e1 h2
  refine ⟨g, cap, w5, e1, by rw [List.map_append]; exact h2, ⟨h3.os.trans (by rw [hwx]; rfl), h3.tape.trans (by rw [hwx]; rfl), h3.output.trans (by rw [hwx]; rfl), by have := h3.size; omega, fun j hj => ?_⟩, fun b hb' hc => ?_, ?_⟩
  · exact (h3.block j (by omega) (fun q => by have := hJ.blk_ge j q.symm; omega)).trans (hkx j (by omega))
  · exact (h3.block b (by omega) (fun q => hc q.symm)).trans (hkx b hb')
  · rcases h4 with h4 | h4
    · exact .inl h4
    · exact .inr (by omega)
attribute [local go_sem ↓] append_hid
set_option maxRecDepth 100000 in
set_option maxHeartbeats 1000000 in
theorem without_is (w : World) (base : Nat) (v : Value) (cs : List De) (z : Int) (h : JR TK 3 w base v (cs.map dcl)) (hl : cs.length ≤ 1099511627776) :
    Calls Try.prog 20 #[v, .int .i64 z] w fun e w' => ∃ u, e = .returned u ∧ JR TK 3 w' w.heap.size u ((wo cs z).map dcl) ∧ Below w.heap.size w w' := by
  obtain ⟨a, c, rfl, _⟩ := h.shape
  rw [List.length_map] at h ⊢
  have HJ := hd h
  clear h
  go_enter Try.func20, Try.ntmps20
  go_wp2_with fail
  go_loopw [5, 6] (fun va i wr => ∃ k : Nat, k ≤ cs.length ∧ i = .int .i64 (k : Int) ∧ JR TK 3 wr w.heap.size va ((wo (cs.take k) z).map dcl) ∧ Below w.heap.size w wr) (fun _ i _ => cs.length - (intOf i).toNat)
  case atStart => exact ⟨0, by omega, rfl, jr_nil _ _, Below.refl _ _⟩
  case round =>
    obtain ⟨k, hk, rfl, hJ, hB⟩ := hrel
    have HJo := hd hJ; have HB := hd hB
    clear hJ hB
    by_cases hlt : k < cs.length
    · obtain ⟨x, hx⟩ : ∃ x, cs[k]? = some x := ⟨_, List.getElem?_eq_getElem hlt⟩
      obtain ⟨g, hg, _, hn1, hn2, c0, c1, c2⟩ := JR.nth (HJ.out.keepAll HB.out) hx
      subst hg
      have htk : cs.take (k + 1) = cs.take k ++ [x] := by rw [List.take_add_one, hx]; rfl
      have hkl : (cs.take k).length = k := by rw [List.length_take]; omega
      by_cases hz : (k : Int) = z
      · have hzb : ((k : Int) != z) = false := by rw [bne_eq_false_iff_eq]; exact hz
        have HREL : Hid (JR TK 3 wr w.heap.size u5 ((wo (cs.take (k + 1)) z).map dcl) ∧ Below w.heap.size w wr) := by
          refine ⟨?_, HB.out⟩
          rw [htk, wo_snoc, hkl, if_pos hz, List.append_nil]
          exact HJo.out
        clear htk hkl hz
        go_wp2_with fail
        go_roundw
        case rel => exact ⟨k + 1, by omega, by go_num, HREL.out⟩
        case measure => simp [intOf]; omega
      · have hzb : ((k : Int) != z) = true := by rw [bne_iff_ne]; exact hz
        have hwl : (wo (cs.take k) z).length ≤ k := by
          unfold wo
          rw [List.length_map]
          refine Nat.le_trans (List.length_filter_le _ _) ?_
          rw [List.length_zipIdx, hkl]; exact Nat.le_refl _
        obtain ⟨wx, hwx⟩ : ∃ wx, wx = wr.alloc (.cells #[.string x.1.nm, .slice x.2.1 x.1.dat.length x.2.2, .int .i64 (x.1.las : Int)] TK) := ⟨_, rfl⟩
        obtain ⟨g5, cc5, w5, hr5, hJ5, hb5, _, _⟩ := push_is HJo.out HB.out.size x hwx (by omega)
        rw [hwx] at hr5
        have HREL : Hid (JR TK 3 w5 w.heap.size (.slice (some ⟨g5, 0, none⟩) ((wo (cs.take k) z).length + 1) cc5) ((wo (cs.take (k + 1)) z).map dcl) ∧ Below w.heap.size w w5) := by
          refine ⟨?_, bel_tr HB.out hb5⟩
          rw [htk, wo_snoc, hkl, if_neg hz]
          exact hJ5
        generalize (wo (cs.take k) z).length = wl at *
        clear htk hkl hz hwx hJ5 hb5
        go_wp2_with fail
        go_roundw
        case rel => exact ⟨k + 1, by omega, by go_num, HREL.out⟩
        case measure => simp [intOf]; omega
    · obtain rfl : cs.length = k := by omega
      rw [List.take_length] at HJo
      go_wp2_with fail
      go_ret
      exact ⟨_, rfl, HJo.out, HB.out⟩
end Tl
end Go.Proofs.Ytpjfoinkifkdoaa
