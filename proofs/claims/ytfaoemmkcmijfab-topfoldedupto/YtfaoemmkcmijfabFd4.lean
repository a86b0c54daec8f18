/-
  THE WALK OF turnedRound: records in another order, some twice.
-/
import Derived.Test.YtfaoemmkcmijfabFd3
import Derived.Test.YtfaoemmkcmijfabRv
import Derived.Deep.MidRow
import Derived.Deep.WholeRow
namespace Go.Proofs.Ytfaoemmkcmijfab
open Go.RowKit Go.Maps Go.Sort
namespace Fd
open Vt
attribute [local go_sem ↓] append_hid
/-- a slice of integers that came in -/
def IsI (w : World) (v : Value) (l : List Int) : Prop :=
  (∀ x ∈ l, -9223372036854775808 ≤ x ∧ x ≤ 9223372036854775807) ∧ l.length ≤ maxLen ∧ ((l = [] ∧ ∃ a c, v = .slice a 0 c) ∨ ∃ b off c, v = .slice (some ⟨b, off, none⟩) l.length c ∧ l.length ≤ c ∧ c ≤ maxLen ∧ b < w.heap.size ∧ ∀ i, i < l.length → w.cell? ⟨b, off + i, none⟩ = some (.int .i64 (l.getD i 0)))
theorem IsI.shape {w : World} {v : Value} {l : List Int} (h : IsI w v l) : ∃ a c, v = .slice a l.length c := by
  obtain ⟨_, _, ⟨rfl, a, c, rfl⟩ | ⟨b, off, c, rfl, _⟩⟩ := h
  · exact ⟨a, c, rfl⟩
  · exact ⟨_, c, rfl⟩
theorem IsI.below {n : Nat} {w w' : World} {v : Value} {l : List Int} (h : IsI w v l) (hb : Below n w w') (hn : n = w.heap.size) : IsI w' v l := by
  subst hn
  obtain ⟨h1, h2, ⟨rfl, a, c, rfl⟩ | ⟨b, off, c, rfl, h3, h4, h5, h6⟩⟩ := h
  · exact ⟨h1, h2, .inl ⟨rfl, a, c, rfl⟩⟩
  · refine ⟨h1, h2, .inr ⟨b, off, c, rfl, h3, h4, Nat.lt_of_lt_of_le h5 hb.size, fun k hk => ?_⟩⟩
    rw [hb.cell h5]; exact h6 k hk
theorem IsI.at {w : World} {a : Option Addr} {n c k : Nat} {l : List Int} (h : IsI w (.slice a n c) l) (hk : k < l.length) : ∃ b off, a = some ⟨b, off, none⟩ ∧ b < w.heap.size ∧ n = l.length ∧ w.cell? ⟨b, off + k, none⟩ = some (.int .i64 (l.getD k 0)) ∧ -9223372036854775808 ≤ l.getD k 0 ∧ l.getD k 0 ≤ 9223372036854775807 := by
  obtain ⟨h1, h2, ⟨rfl, a', c', e⟩ | ⟨b', off', c', e, h3, h4, h5, h6⟩⟩ := h
  · simp at hk
  · injection e with e1 e2 e3
    refine ⟨b', off', e1, h5, e2, h6 k hk, h1 _ ?_⟩
    rw [List.getD_eq_getElem?_getD, List.getElem?_eq_getElem hk]
    exact List.getElem_mem hk
theorem isI_of {w : World} {a : Option Addr} {len cap : Nat} {zs : List Int} (h : IsRow .i64 w a len cap zs) : ∃ l : List Int, IsI w (.slice a len cap) l := by
  rcases h with ⟨rfl, rfl, rfl, rfl⟩ | ⟨x, rfl, hl, hm, hz, hcell, hwz⟩
  · exact ⟨[], by simp, by simp, .inl ⟨rfl, _, _, rfl⟩⟩
  · have hlen : (zs.take len).length = len := by rw [List.length_take]; omega
    refine ⟨zs.take len, fun n hn => ?_, by omega, ?_⟩
    · have := bounds_i64 (hwz n (List.mem_of_mem_take hn)); exact this
    by_cases h0 : len = 0
    · subst h0
      exact .inl ⟨by simp, _, _, rfl⟩
    · obtain ⟨b, off, spot⟩ := x
      have hc := hcell 0 (by omega)
      have hspot : spot = none := by simpa [Addr.add] using World.cell?_spot hc
      subst hspot
      have hbl : b < w.heap.size := lt_of_cell hc
      refine .inr ⟨b, off, cap, by rw [hlen], by omega, hm, hbl, fun j hj => ?_⟩
      rw [hlen] at hj
      have hck := hcell j (by omega)
      rw [add_at] at hck
      rw [hck, List.getD_eq_getElem?_getD, List.getD_eq_getElem?_getD, List.getElem?_take_of_lt hj]
/-- a store, hidden from the walk -/
def stO (t : TypeId) (p x : Value) : Sem Unit := Instr.storeAt t p x
theorem store_hid (t : TypeId) (p x : Value) : Instr.storeAt t p x = stO t p x := rfl
theorem rcl_one (r : Rec) : ∀ u ∈ rcl r, u.oneCell' = true := by intro u hu; simp [rcl] at hu; rcases hu with rfl | rfl | rfl | rfl <;> rfl
theorem flat_rcl (rs : List Rec) (i : Nat) (r : Rec) (j : Nat) (u : Value) (h : rs[i]? = some r) (hu : (rcl r)[j]? = some u) : (rs.map rcl).flatten[i * 4 + j]? = some u := by
  rw [flat_at (sz := 4) (ls := rs.map rcl) (by intro x hx; obtain ⟨y, _, rfl⟩ := List.mem_map.1 hx; rfl) i (rcl r) j (by rw [List.getElem?_map, h]; rfl) (by have := (List.getElem?_eq_some_iff.1 hu).1; simpa [rcl] using this)]
  exact hu
theorem flat_inv (rs : List Rec) (p : Nat) (u : Value) (h : (rs.map rcl).flatten[p]? = some u) : ∃ r, rs[p / 4]? = some r ∧ (rcl r)[p % 4]? = some u := by
  have hl : (rs.map rcl).flatten.length = rs.length * 4 := by
    rw [flat_len (sz := 4) (ls := rs.map rcl) (by intro x hx; obtain ⟨y, _, rfl⟩ := List.mem_map.1 hx; rfl), List.length_map]
  have hp : p < rs.length * 4 := by have := (List.getElem?_eq_some_iff.1 h).1; omega
  have hi : p / 4 < rs.length := by omega
  refine ⟨rs[p / 4], List.getElem?_eq_getElem hi, ?_⟩
  have hr : ∃ u', (rcl rs[p / 4])[p % 4]? = some u' := ⟨_, List.getElem?_eq_getElem (by simp [rcl]; omega)⟩
  obtain ⟨u', hu'⟩ := hr
  have := flat_rcl rs (p / 4) rs[p / 4] (p % 4) u' (List.getElem?_eq_getElem hi) hu'
  rw [show p / 4 * 4 + p % 4 = p by omega, h] at this
  rw [hu', this]
/-- a copy of records -/
theorem copy_is (w : World) (u : Value) (rs : List Rec) (hI : IsR w u rs) (hl : rs.length ≤ 1099511627776) :
    ∃ a' cap w', (Builtin.append_ #[24, 24] 24 #[.slice none 0 0, u]).run Try.prog w = .ok (.slice a' rs.length cap) w' ∧ JR TR 4 w' w.heap.size (.slice a' rs.length cap) (rs.map rcl) ∧ Below w.heap.size w w' := by
  obtain ⟨i0, hi, hz0, hz1, hz2⟩ := info_parts info_rec
  rcases hI.2 with ⟨rfl, a, c, rfl⟩ | ⟨b, off, c, rfl, hlc, hcm, hbl, hop⟩
  · refine ⟨none, 0, w, ?_, jr_nil _ _, Below.refl _ _⟩
    cases a <;> simp [Builtin.append_, run_underlying Try.underlying24, sizeOf, typeInfo, hi, Builtin.lenOf, Builtin.firstCells, loadCells, loadCellsFrom]
  · by_cases h0 : rs.length = 0
    · obtain rfl : rs = [] := List.length_eq_zero_iff.1 h0
      refine ⟨none, 0, w, ?_, jr_nil _ _, Below.refl _ _⟩
      simp [Builtin.append_, run_underlying Try.underlying24, sizeOf, typeInfo, hi, Builtin.lenOf, Builtin.firstCells, loadCells, loadCellsFrom]
    · have hlen : (rs.map rcl).flatten.length = rs.length * 4 := by
        rw [flat_len (sz := 4) (ls := rs.map rcl) (by intro x hx; obtain ⟨y, _, rfl⟩ := List.mem_map.1 hx; rfl), List.length_map]
      obtain ⟨g, cap, w', hr, h2, h3, h4, _⟩ := run_append_lies (P := Try.prog) w 24 24 w.heap.size TR i0 _ 4 48 Try.underlying24 hi hz0 hz1 hz2 rfl (by decide) (.slice none 0 0) 0 [] (jr_nil (E := TR) (sz := 4) w w.heap.size).2 ⟨b, off, none⟩ rs.length c (rs.map rcl).flatten hlen
        (fun p u hp => by
          obtain ⟨r, h1, h2⟩ := flat_inv rs p u hp
          have := hop (p / 4) r h1 (p % 4) u h2
          rw [show off + p / 4 * 4 + p % 4 = off + p by omega] at this
          rw [add_at]; exact this)
        (fun u hu => by
          obtain ⟨l, hl, hu⟩ := List.mem_flatten.1 hu
          obtain ⟨r, _, rfl⟩ := List.mem_map.1 hl
          exact rcl_one r u hu) (by omega) (by unfold maxLen; omega) (by omega) (Nat.le_refl _) w.heap.size rfl
      rw [Nat.zero_add] at hr h2
      refine ⟨_, cap, w', hr, ⟨?_, ?_⟩, ⟨h3.os, h3.tape, h3.output, h3.size, fun k hk => h3.block k hk (by simp [Value.ownBlock])⟩⟩
      · intro x hx
        obtain ⟨r, _, rfl⟩ := List.mem_map.1 hx
        exact ⟨rfl, rcl_one r⟩
      · rw [List.length_map]
        simpa using h2
theorem flat_set4 (v0 v1 v2 v3 : Value) : ∀ (ls : List (List Value)) (k : Nat), (∀ r ∈ ls, r.length = 4) → k < ls.length → ((((ls.flatten.set (k * 4) v0).set (k * 4 + 1) v1).set (k * 4 + 2) v2).set (k * 4 + 3) v3) = (ls.set k [v0, v1, v2, v3]).flatten := by
  intro ls
  induction ls with
  | nil => intro k _ h; simp at h
  | cons a t ih =>
    intro k hr hk
    obtain ⟨x0, x1, x2, x3, rfl⟩ := list4 (hr a (List.mem_cons_self))
    cases k with
    | zero => simp
    | succ k =>
      have := ih k (fun r h => hr r (List.mem_cons_of_mem _ h)) (by simpa using hk)
      rw [show (k + 1) * 4 = k * 4 + 1 + 1 + 1 + 1 by omega]
      simp only [List.flatten_cons, List.cons_append, List.nil_append, List.set_cons_succ]
      rw [← this]
theorem row_set {w : World} {base g p : Nat} {E : TypeId} {sz n cap : Nat} {xs : List Value} (h : w.ownsRow base E sz (.slice (some ⟨g, 0, none⟩) n cap) n xs) {u : Value} : (w.setCell ⟨g, p, none⟩ u).ownsRow base E sz (.slice (some ⟨g, 0, none⟩) n cap) n (xs.set p u) := by
  obtain ⟨h0, ⟨h, _⟩ | ⟨g', cap', cur, h, hb, hh, hl, hm, hc, ht⟩⟩ := h
  · cases h
  · injection h with h1 h2 h3
    injection h1 with h1
    injection h1 with h1
    subst h1 h3
    refine ⟨by rw [List.length_set]; exact h0, .inr ⟨g, cap, cur.setIfInBounds p u, rfl, hb, ?_, hl, hm, by rw [Array.size_setIfInBounds]; exact hc, ?_⟩⟩
    · have hlt := (Array.getElem?_eq_some_iff.1 hh).1
      have h' : w.heap[g] = .cells cur E (0, 0) := by simpa [Array.getElem?_eq_getElem hlt] using hh
      show (w.heap.modify g _)[g]? = _
      rw [Array.getElem?_eq_getElem (by simpa using hlt), Array.getElem_modify_self, h']
      rfl
    · rw [Array.toList_setIfInBounds, List.take_set, ht]
/-- a record is laid into a row -/
def setR (w : World) (g k : Nat) (r : Rec) : World := (((w.setCell ⟨g, k * 4, none⟩ (.int .u64 (r.lsn : Int))).setCell ⟨g, k * 4 + 1, none⟩ (.int .i64 r.kind)).setCell ⟨g, k * 4 + 2, none⟩ (.string r.key)).setCell ⟨g, k * 4 + 3, none⟩ (.string r.val)
theorem setR_eq (w : World) (g k : Nat) (r : Rec) : w.setCells g (k * 4) (rcl r) = setR w g k r := rfl
theorem set_rec {w : World} {base g k n cap : Nat} {rs : List Rec} (h : JR TR 4 w base (.slice (some ⟨g, 0, none⟩) n cap) (rs.map rcl)) (hn : n = rs.length) (hk : k < rs.length) (r : Rec) : JR TR 4 (setR w g k r) base (.slice (some ⟨g, 0, none⟩) n cap) ((rs.set k r).map rcl) := by
  refine ⟨fun x hx => by obtain ⟨y, _, rfl⟩ := List.mem_map.1 hx; exact ⟨rfl, rcl_one y⟩, ?_⟩
  have h2 := h.2
  rw [List.length_map, ← hn] at h2
  have h3 := row_set (p := k * 4 + 3) (u := .string r.val) (row_set (p := k * 4 + 2) (u := .string r.key) (row_set (p := k * 4 + 1) (u := .int .i64 r.kind) (row_set (p := k * 4) (u := .int .u64 (r.lsn : Int)) h2)))
  rw [flat_set4 _ _ _ _ (rs.map rcl) k (by intro x hx; obtain ⟨y, _, rfl⟩ := List.mem_map.1 hx; rfl) (by rw [List.length_map]; exact hk)] at h3
  rw [List.length_map, List.length_set, ← hn, List.map_set]
  exact h3
theorem setR_below {B : Nat} {w0 w : World} (h : Below B w0 w) {g : Nat} (hg : B ≤ g) (k : Nat) (r : Rec) : Below B w0 (setR w g k r) := (((h.setCell (p := ⟨g, k * 4, none⟩) hg _).setCell (p := ⟨g, k * 4 + 1, none⟩) hg _).setCell (p := ⟨g, k * 4 + 2, none⟩) hg _).setCell (p := ⟨g, k * 4 + 3, none⟩) hg _
theorem setR_blk {w : World} {X g : Nat} {T : TypeId} {cs : List Value} (h : Blk w X T cs) (hne : g ≠ X) (k : Nat) (r : Rec) : Blk (setR w g k r) X T cs := (((h.other (p := ⟨g, k * 4, none⟩) hne _).other (p := ⟨g, k * 4 + 1, none⟩) hne _).other (p := ⟨g, k * 4 + 2, none⟩) hne _).other (p := ⟨g, k * 4 + 3, none⟩) hne _
theorem swap_memR {l : List Rec} {a b : Nat} {x y : Rec} (ha : l[a]? = some x) (hb : l[b]? = some y) (z : Rec) : z ∈ (l.set a y).set b x ↔ z ∈ l := by
  have hal := (List.getElem?_eq_some_iff.1 ha).1
  have hbl := (List.getElem?_eq_some_iff.1 hb).1
  have hg : ∀ i, ((l.set a y).set b x)[i]? = if i = b then some x else if i = a then some y else l[i]? := by
    intro i
    by_cases h1 : i = b
    · rw [if_pos h1, h1, List.getElem?_set_self (by rw [List.length_set]; exact hbl)]
    · rw [if_neg h1, List.getElem?_set_ne (fun e => h1 e.symm)]
      by_cases h2 : i = a
      · rw [if_pos h2, h2, List.getElem?_set_self hal]
      · rw [if_neg h2, List.getElem?_set_ne (fun e => h2 e.symm)]
  rw [List.mem_iff_getElem?, List.mem_iff_getElem?]
  constructor
  · rintro ⟨i, hi⟩
    rw [hg] at hi
    split at hi
    · exact ⟨a, by rw [ha]; exact hi⟩
    · split at hi
      · exact ⟨b, by rw [hb]; exact hi⟩
      · exact ⟨i, hi⟩
  · rintro ⟨i, hi⟩
    by_cases h1 : i = a
    · refine ⟨b, ?_⟩
      rw [hg, if_pos rfl, ← ha, ← h1]; exact hi
    · by_cases h2 : i = b
      · by_cases h3 : a = b
        · exact absurd (h2.trans h3.symm) h1
        · refine ⟨a, ?_⟩
          rw [hg, if_neg h3, if_pos rfl, ← hb, ← h2]; exact hi
      · exact ⟨i, by rw [hg, if_neg h2, if_neg h1]; exact hi⟩
theorem info_size : (Try.prog.info? TR).map (·.size) = some 4 := by kernel_rfl
theorem jr_there {w : World} {base g k n cap : Nat} {rs : List Rec} (h : JR TR 4 w base (.slice (some ⟨g, 0, none⟩) n cap) (rs.map rcl)) (hk : k < rs.length) : w.there g (k * 4) 4 := by
  intro j hj
  obtain ⟨r, hr⟩ : ∃ r, rs[k]? = some r := ⟨_, List.getElem?_eq_getElem hk⟩
  obtain ⟨u, hu⟩ : ∃ u, (rcl r)[j]? = some u := ⟨_, List.getElem?_eq_getElem (by simpa [rcl] using hj)⟩
  refine ⟨by rw [h.at k (rcl r) j u (by rw [List.getElem?_map, hr]; rfl) hu]; rfl, ?_⟩
  obtain ⟨_, _, ⟨q, _⟩ | ⟨g', cap', cur, q, _, hh, _⟩⟩ := h
  · cases q
  · injection q with q _ _
    injection q with q
    injection q with q
    subst q
    simp [World.frozen?, hh]
theorem store_mid {w : World} {base g k n cap : Nat} {rs : List Rec} (h : JR TR 4 w base (.slice (some ⟨g, 0, none⟩) n cap) (rs.map rcl)) (hk : k < rs.length) (r : Rec) : (stO TR (.pointer (some ⟨g, k * 4, none⟩)) (.agg #[.int .u64 (r.lsn : Int), .int .i64 r.kind, .string r.key, .string r.val])).run Try.prog w = .ok () (setR w g k r) := by
  rw [← setR_eq]
  exact run_storeAt_mid w g (k * 4) TR #[.int .u64 (r.lsn : Int), .int .i64 r.kind, .string r.key, .string r.val] (jr_there h hk) info_size (all_oneCell_toArray (rcl_one r))
theorem store_new (w : World) (r : Rec) : (stO TR (.pointer (some ⟨w.heap.size, 0, none⟩)) (.agg #[.int .u64 (r.lsn : Int), .int .i64 r.kind, .string r.key, .string r.val])).run Try.prog (w.alloc (.cells #[.int .u64 0, .int .i64 0, .string ⟨#[]⟩, .string ⟨#[]⟩] TR)) = .ok () (w.alloc (.cells #[.int .u64 (r.lsn : Int), .int .i64 r.kind, .string r.key, .string r.val] TR)) :=
  run_storeAt_new w TR #[.int .u64 0, .int .i64 0, .string ⟨#[]⟩, .string ⟨#[]⟩] #[.int .u64 (r.lsn : Int), .int .i64 r.kind, .string r.key, .string r.val] info_size rfl (all_oneCell_toArray (rcl_one r))
attribute [local go_sem ↓] store_hid
set_option maxRecDepth 100000 in
set_option maxHeartbeats 1000000 in
theorem turned_is (v vb : Value) (rs : List Rec) (zs : List Int) (w : World) (hS : IsR w v rs) (hZ : IsI w vb zs) (hl : rs.length ≤ 1048576) (hz : zs.length ≤ 1048576) :
    Calls Try.prog 7 #[v, vb] w fun e w' => ∃ (u : Value) (out : List Rec), e = .returned u ∧ JR TR 4 w' w.heap.size u (out.map rcl) ∧ (∀ x, x ∈ out ↔ x ∈ rs) ∧ out.length ≤ rs.length + zs.length ∧ Below w.heap.size w w' := by
  obtain ⟨a7, c7, w7, hr7, hJ7, hb7⟩ := copy_is w v rs hS (by omega)
  obtain ⟨a, cap, rfl⟩ := hS.shape
  obtain ⟨a2, cap2, rfl⟩ := hZ.shape
  rw [append_hid] at hr7
  have HZ := hd hZ
  have HJ7 := hd hJ7; have HB7 := hd hb7
  clear hS hZ hJ7 hb7
  go_enter Try.func7, Try.ntmps7
  go_wp2_with fail
  go_loopw [5, 6] (fun va i wx => ∃ (t : Nat) (out : List Rec), t ≤ zs.length ∧ i = .int .i64 (t : Int) ∧ JR TR 4 wx w.heap.size va (out.map rcl) ∧ (∀ x, x ∈ out ↔ x ∈ rs) ∧ out.length ≤ rs.length + t ∧ Below w.heap.size w wx) (fun _ i _ => zs.length - (intOf i).toNat)
  case atStart => exact ⟨0, rs, by omega, rfl, HJ7.out, fun _ => Iff.rfl, Nat.le_refl _, HB7.out⟩
  case round =>
    obtain ⟨t, out, ht, rfl, hJ, hom, hol, hB⟩ := hrel
    have HJ := hd hJ; have HB := hd hB; have HOM := hd hom
    clear hJ hB hom HJ7 HB7
    by_cases hgo : t < zs.length
    · by_cases hr0 : 0 < rs.length
      · have hne : out ≠ [] := by
          intro e
          obtain ⟨x, hx⟩ := List.exists_mem_of_length_pos hr0
          have := (HOM.out x).2 hx
          rw [e] at this
          cases this
        obtain ⟨g, c, hv, hlc, hcm⟩ := HJ.out.nn (by simpa using hne)
        rw [List.length_map] at hv hlc
        subst hv
        have hL : 0 < out.length := List.length_pos_iff.2 hne
        have hgb := HJ.out.blk_ge g rfl
        have hgl := HJ.out.blk_lt g rfl
        obtain ⟨b2, o2, hb2, hbl2, _, hzw, hz1, hz2⟩ := HZ.out.at hgo
        have hzc := (HB.out.cell (p := ⟨b2, o2 + t, none⟩) hbl2).trans hzw
        subst hb2
        generalize zs.getD t 0 = z at *
        have HP1 := hd (tpick_is z out.length wr hL (by omega) (Go.WalkArith.wf_i64 ⟨hz1, hz2⟩))
        have hcz : cap2 ≤ maxLen ∧ zs.length ≤ cap2 := by
          obtain ⟨_, _, ⟨rfl, _⟩ | ⟨b', off', c', e, h3, h4, h5, h6⟩⟩ := HZ.out
          · simp at hgo
          · injection e with _ _ e3
            rw [e3]; exact ⟨h4, h3⟩
        obtain ⟨hcz1, hcz2⟩ := hcz
        go_wp2_with fail
        refine Calls.mono HP1.out ?_
        rintro e wq ⟨m, hm, rfl, hwq⟩
        rw [hwq]
        clear hwq HP1
        obtain ⟨K, hK⟩ : ∃ K, K = t % out.length := ⟨_, rfl⟩
        have hKl : K < out.length := by rw [hK]; exact Nat.mod_lt _ hL
        have HKZ : Hid ((t : Int) % (out.length : Int) = (K : Int)) := by show _ = _; rw [hK]; rfl
        clear hK
        obtain ⟨x1, hx1⟩ : ∃ x, out[m]? = some x := ⟨_, List.getElem?_eq_getElem hm⟩
        obtain ⟨x2, hx2⟩ : ∃ x, out[K]? = some x := ⟨_, List.getElem?_eq_getElem hKl⟩
        have hat : ∀ (i : Nat) (x : Rec) (j : Nat) (u : Value), out[i]? = some x → (rcl x)[j]? = some u → wr.cell? ⟨g, i * 4 + j, none⟩ = some u := fun i x j u hi hu => HJ.out.at i (rcl x) j u (by rw [List.getElem?_map, hi]; rfl) hu
        have p0 : wr.cell? ⟨g, m * 4, none⟩ = some (.int .u64 (x1.lsn : Int)) := hat m x1 0 _ hx1 rfl
        have p1 : wr.cell? ⟨g, m * 4 + 1, none⟩ = some (.int .i64 x1.kind) := hat m x1 1 _ hx1 rfl
        have p2 : wr.cell? ⟨g, m * 4 + 2, none⟩ = some (.string x1.key) := hat m x1 2 _ hx1 rfl
        have p3 : wr.cell? ⟨g, m * 4 + 3, none⟩ = some (.string x1.val) := hat m x1 3 _ hx1 rfl
        have q0 : wr.cell? ⟨g, K * 4, none⟩ = some (.int .u64 (x2.lsn : Int)) := hat K x2 0 _ hx2 rfl
        have q1 : wr.cell? ⟨g, K * 4 + 1, none⟩ = some (.int .i64 x2.kind) := hat K x2 1 _ hx2 rfl
        have q2 : wr.cell? ⟨g, K * 4 + 2, none⟩ = some (.string x2.key) := hat K x2 2 _ hx2 rfl
        have q3 : wr.cell? ⟨g, K * 4 + 3, none⟩ = some (.string x2.val) := hat K x2 3 _ hx2 rfl
        have hgne : ¬ g = wr.heap.size := by omega
        have hgne' : ¬ wr.heap.size = g := by omega
        clear hat
        have s1 := store_new wr x1
        obtain ⟨W1, hW1⟩ : ∃ W1, W1 = wr.alloc (.cells #[.int .u64 (x1.lsn : Int), .int .i64 x1.kind, .string x1.key, .string x1.val] TR) := ⟨_, rfl⟩
        have hJ1 : JR TR 4 W1 w.heap.size (.slice (some ⟨g, 0, none⟩) out.length c) (out.map rcl) := by rw [hW1]; exact HJ.out.alloc _
        have hB1 : Blk W1 wr.heap.size TR (rcl x1) := by rw [hW1]; exact Blk.new wr TR (rcl x1)
        obtain ⟨W2, hW2⟩ : ∃ W2, W2 = setR W1 g m x2 := ⟨_, rfl⟩
        obtain ⟨W3, hW3⟩ : ∃ W3, W3 = setR W2 g K x1 := ⟨_, rfl⟩
        have s2 := store_mid hJ1 hm x2
        rw [← hW2, hW1] at s2
        have hJ2 : JR TR 4 W2 w.heap.size (.slice (some ⟨g, 0, none⟩) out.length c) ((out.set m x2).map rcl) := by rw [hW2]; exact set_rec hJ1 rfl hm x2
        have s3 := store_mid hJ2 (k := K) (by rw [List.length_set]; exact hKl) x1
        rw [← hW3] at s3
        have hJ3 : JR TR 4 W3 w.heap.size (.slice (some ⟨g, 0, none⟩) out.length c) (((out.set m x2).set K x1).map rcl) := by rw [hW3]; exact set_rec hJ2 (by rw [List.length_set]) (by rw [List.length_set]; exact hKl) x1
        have hB2 : Blk W2 wr.heap.size TR (rcl x1) := by rw [hW2]; exact setR_blk hB1 hgne _ _
        have hB3 : Blk W3 wr.heap.size TR (rcl x1) := by rw [hW3]; exact setR_blk hB2 hgne _ _
        have e0 : W2.cell? ⟨wr.heap.size, 0, none⟩ = some (.int .u64 (x1.lsn : Int)) := hB2.cell 0 _ rfl
        have e1 : W2.cell? ⟨wr.heap.size, 1, none⟩ = some (.int .i64 x1.kind) := hB2.cell 1 _ rfl
        have e2 : W2.cell? ⟨wr.heap.size, 2, none⟩ = some (.string x1.key) := hB2.cell 2 _ rfl
        have e3 : W2.cell? ⟨wr.heap.size, 3, none⟩ = some (.string x1.val) := hB2.cell 3 _ rfl
        have hBw1 : Below w.heap.size w W1 := by rw [hW1]; exact HB.out.alloc HB.out.size _
        have hBw3 : Below w.heap.size w W3 := by rw [hW3, hW2]; exact setR_below (setR_below hBw1 hgb _ _) hgb _ _
        have HSM := hd (fun z => swap_memR hx1 hx2 z)
        have HJ3 := hd hJ3; have HB3 := hd hB3; have HBw3 := hd hBw3
        have HX1 := hd hx1
        have hz3 : W3.cell? ⟨b2, o2 + t, none⟩ = some (.int .i64 z) := (hBw3.cell (p := ⟨b2, o2 + t, none⟩) hbl2).trans hzw
        have HP2 := hd (tpick_is z 5 W3 (by omega) (by omega) (Go.WalkArith.wf_i64 ⟨hz1, hz2⟩))
        clear hW1 hW2 hW3 hJ1 hJ2 hJ3 hB1 hB2 hB3 hBw1 hBw3 hx1 hx2
        go_upto_region 8 with (fail)
        rw [HKZ.out]
        go_wp2_with fail
        refine Calls.mono HP2.out ?_
        rintro e wq ⟨m5, hm5, rfl, hwq⟩
        rw [hwq]
        clear hwq HP2 s1 s2 s3 e0 e1 e2 e3 p0 p1 p2 p3 q0 q1 q2 q3 hz3 hzc hzw
        have HL3 : Hid (((out.set m x2).set K x1).length = out.length) := by show _ = _; rw [List.length_set, List.length_set]
        have HM3 : Hid (∀ y, y ∈ (out.set m x2).set K x1 ↔ y ∈ rs) := fun y => (HSM.out y).trans (HOM.out y)
        have HXR : Hid (x1 ∈ rs) := (HOM.out x1).1 (List.mem_of_getElem? HX1.out)
        clear HSM HOM HX1 HJ
        generalize (out.set m x2).set K x1 = out3 at *
        by_cases h50 : m5 = 0
        · subst h50
          have f0 : W3.cell? ⟨wr.heap.size, 0, none⟩ = some (.int .u64 (x1.lsn : Int)) := HB3.out.cell 0 _ rfl
          have f1 : W3.cell? ⟨wr.heap.size, 1, none⟩ = some (.int .i64 x1.kind) := HB3.out.cell 1 _ rfl
          have f2 : W3.cell? ⟨wr.heap.size, 2, none⟩ = some (.string x1.key) := HB3.out.cell 2 _ rfl
          have f3 : W3.cell? ⟨wr.heap.size, 3, none⟩ = some (.string x1.val) := HB3.out.cell 3 _ rfl
          obtain ⟨Wy, hWy⟩ : ∃ Wy, Wy = W3.alloc (.cells #[.int .u64 (x1.lsn : Int), .int .i64 x1.kind, .string x1.key, .string x1.val] TR) := ⟨_, rfl⟩
          obtain ⟨g5, c5, w5, hr5, hJ5, hb5, _⟩ := push_is HJ3.out HBw3.out.size x1 hWy (by rw [List.length_map, HL3.out]; omega)
          rw [List.length_map, HL3.out] at hr5 hJ5
          rw [append_hid, hWy] at hr5
          have HREL : Hid (JR TR 4 w5 w.heap.size (.slice (some ⟨g5, 0, none⟩) (out.length + 1) c5) ((out3 ++ [x1]).map rcl) ∧ (∀ y, y ∈ out3 ++ [x1] ↔ y ∈ rs) ∧ (out3 ++ [x1]).length ≤ rs.length + (t + 1) ∧ Below w.heap.size w w5) := by
            refine ⟨by rw [List.map_append]; exact hJ5, fun y => ?_, by rw [List.length_append, HL3.out]; simp; omega, bel_tr HBw3.out hb5⟩
            rw [List.mem_append, List.mem_singleton, HM3.out y]
            exact ⟨fun q => q.elim id (fun e => by rw [e]; exact HXR.out), .inl⟩
          clear hJ5 hb5 hWy
          go_wp2_with fail
          go_roundw
          case rel => exact ⟨t + 1, _, by omega, by go_num, HREL.out⟩
          case measure => simp [intOf]; omega
        · have h5b : ((m5 : Int) == 0) = false := by rw [beq_eq_false_iff_ne]; omega
          have HREL : Hid (JR TR 4 W3 w.heap.size (.slice (some ⟨g, 0, none⟩) out.length c) (out3.map rcl) ∧ (∀ y, y ∈ out3 ↔ y ∈ rs) ∧ out3.length ≤ rs.length + (t + 1) ∧ Below w.heap.size w W3) := ⟨HJ3.out, HM3.out, by rw [HL3.out]; omega, HBw3.out⟩
          go_wp2_with fail
          go_roundw
          case rel => exact ⟨t + 1, _, by omega, by go_num, HREL.out⟩
          case measure => simp [intOf]; omega
      · go_wp2_with fail
        go_ret
        exact ⟨_, out, rfl, HJ.out, HOM.out, by omega, HB.out⟩
    · go_wp2_with fail
      go_ret
      exact ⟨_, out, rfl, HJ.out, HOM.out, by omega, HB.out⟩
end Fd
end Go.Proofs.Ytfaoemmkcmijfab
