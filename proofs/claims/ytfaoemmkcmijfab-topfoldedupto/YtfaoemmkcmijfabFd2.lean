/-
  THE WALK OF keydir.Fold.
-/
import Derived.Test.YtfaoemmkcmijfabFd1
import Derived.Test.YtfaoemmkcmijfabOw0
namespace Go.Proofs.Ytfaoemmkcmijfab
open Go.RowKit Go.Maps Go.Sort
namespace Fd
open Vt
/-- append, hidden from the walk -/
def apO (ats : Array TypeId) (ty : TypeId) (args : Array Value) : Sem Value := Builtin.append_ ats ty args
theorem append_hid (ats : Array TypeId) (ty : TypeId) (args : Array Value) : Builtin.append_ ats ty args = apO ats ty args := rfl
attribute [local go_sem ↓] append_hid
def rcl (r : Rec) : List Value := [.int .u64 (r.lsn : Int), .int .i64 r.kind, .string r.key, .string r.val]
/-- a slice of records that can be read -/
def IsR (w : World) (v : Value) (rs : List Rec) : Prop :=
  (∀ r ∈ rs, r.lsn < 18446744073709551616 ∧ r.key.size ≤ maxLen) ∧ ((rs = [] ∧ ∃ a c, v = .slice a 0 c) ∨ ∃ b off c, v = .slice (some ⟨b, off, none⟩) rs.length c ∧ rs.length ≤ c ∧ c ≤ maxLen ∧ b < w.heap.size ∧ ∀ i r, rs[i]? = some r → ∀ j u, (rcl r)[j]? = some u → w.cell? ⟨b, off + i * 4 + j, none⟩ = some u)
theorem IsR.shape {w : World} {v : Value} {rs : List Rec} (h : IsR w v rs) : ∃ a c, v = .slice a rs.length c := by
  rcases h.2 with ⟨rfl, a, c, h⟩ | ⟨b, off, c, h, _⟩
  · exact ⟨a, c, h⟩
  · exact ⟨_, c, h⟩
theorem IsR.below {w w' : World} {v : Value} {rs : List Rec} (h : IsR w v rs) (hb : Below w.heap.size w w') : IsR w' v rs := by
  refine ⟨h.1, ?_⟩
  rcases h.2 with h | ⟨b, off, c, h1, h2, h3, h4, h5⟩
  · exact .inl h
  · exact .inr ⟨b, off, c, h1, h2, h3, Nat.lt_of_lt_of_le h4 hb.size, fun i r hr j u hu => (World.cell?_of_block (hb.block b h4)).trans (h5 i r hr j u hu)⟩
theorem MR.len {w : World} {m : Nat} {es : List Rec} (h : MR w m es) (ty : TypeId) : (Builtin.len_ #[TM] ty #[.map (some m)]).run Try.prog w = .ok (.int .i64 (es.length : Int)) w := by
  obtain ⟨D, h1, _, _, h4⟩ := h
  rw [← h4]
  exact h1.len Try.underlying42 ty
theorem info_rec : (Try.prog.info? TR).map (fun i => (i.zero, i.size, i.bytes)) = some (some (.agg (rv zr)), 4, 48) := by kernel_rfl
theorem perm_of_sub {α : Type} [BEq α] [LawfulBEq α] : ∀ {a b : List α}, a.Nodup → (∀ x ∈ a, x ∈ b) → b.length ≤ a.length → a.Perm b := by
  intro a
  induction a with
  | nil => intro b _ _ hl; rw [List.eq_nil_of_length_eq_zero (Nat.le_zero.1 hl)]
  | cons x t ih =>
    intro b hn hs hl
    obtain ⟨hx, hn⟩ := List.nodup_cons.1 hn
    have hb := hs x (List.mem_cons_self)
    have h1 := List.perm_cons_erase hb
    refine (List.Perm.cons x (ih hn (fun y hy => (List.mem_erase_of_ne (a := y) (b := x) (fun e => hx (by rw [← e]; exact hy))).2 (hs y (List.mem_cons_of_mem _ hy))) ?_)).trans h1.symm
    have := h1.length_eq
    simp only [List.length_cons] at this hl
    omega
theorem keys_perm {es : List Rec} (hn : Dif es) (hk : ∀ e ∈ es, e.key.size ≤ maxLen) {D : DataW Unit} (hD : ∀ s : ByteArray, s.size ≤ maxLen → Maps.has D (kl s) = (fnR es s).isSome) (hs : Maps.size D = es.length) : (es.map kb).Perm (strKeys D) := by
  apply perm_of_sub
  · refine List.pairwise_map.2 (hn.imp fun {a b} q e => q (kb_inj e))
  · intro x hx
    obtain ⟨e, he, rfl⟩ := List.mem_map.1 hx
    have hf : (fnR es e.key).isSome = true := by rw [fnR_mem hn he]; rfl
    rw [← hD e.key (hk e he)] at hf
    cases D with
    | map l =>
      simp only [Maps.has, List.any_eq_true] at hf
      obtain ⟨p, hp, hk⟩ := hf
      refine List.mem_map.2 ⟨p, hp, ?_⟩
      unfold kl at hk
      cases hq : p.1 with
      | string t => rw [hq] at hk; have := eq_of_beq (show (t == e.key.data.toList) = true from hk); exact this
      | _ => rw [hq] at hk; simp [Lit.sameKey] at hk
    | _ => simp [Maps.has] at hf
  · cases D with
    | map l => simp only [Maps.size] at hs; simp [strKeys, hs]
    | _ => simp [strKeys]
theorem below_alloc {w w2 : World} {o : Obj} (h : Below (w.alloc o).heap.size (w.alloc o) w2) : Below w.heap.size w w2 := by
  have h0 : w.heap.size ≤ (w.alloc o).heap.size := by simp
  exact ⟨h.os, h.tape, h.output, Nat.le_trans h0 h.size, fun k hk => (h.block k (Nat.lt_of_lt_of_le hk h0)).trans ((MapKept.heap_alloc w o).2 k hk)⟩
/-- the keys in order -/
def ksL (es : List Rec) : List U8s := (es.map kb).mergeSort leB
theorem ksL_len (es : List Rec) : (ksL es).length = es.length := by unfold ksL; rw [List.length_mergeSort, List.length_map]
theorem inOrder_len (es : List Rec) : (inOrder es).length = es.length := by unfold inOrder; rw [List.length_map]; exact ksL_len es
theorem sorted_keys (w : World) (m : Nat) (es : List Rec) (h : MR w m es) (hn : Dif es) (hk : ∀ e ∈ es, e.key.size ≤ maxLen) (hl : es.length ≤ 1099511627776) :
    Calls Try.prog 13 #[.func (.func 23) #[] #[.pointer (some ⟨w.heap.size, 0, none⟩)]] (w.alloc (.cells #[.map (some m)] TM)) fun e w' => ∃ v, e = .returned v ∧ w'.ownsRow w.heap.size TS 1 v es.length ((ksL es).map encStr) ∧ Below w.heap.size w w' := by
  obtain ⟨D, hown, _, hD, hs⟩ := h
  have hp := keys_perm hn hk hD hs
  refine (callsIn_wide.1 (Nms.slices_Sorted_keys m es.length D recElem w hown (by rw [hs]; unfold maxLen; omega) (by rw [hs]; omega))).mono ?_
  rintro e w' ⟨v, ss, rfl, hq, hrow, _, hb⟩
  have hpq := hq.trans hp.symm
  have hle : ss.length = es.length := by have := hpq.length_eq; simpa using this
  refine ⟨v, rfl, ?_, below_alloc hb⟩
  rw [← hle]
  have e1 : ksL es = ss.mergeSort leB := (mergeSort_of_perm hpq).symm
  rw [e1]
  obtain ⟨h1, h2⟩ := hrow
  refine ⟨h1, h2.imp id ?_⟩
  rintro ⟨g, cap, cur, a1, a2, a3⟩
  exact ⟨g, cap, cur, a1, Nat.le_trans (by simp) a2, a3⟩
theorem bel_tr {B : Nat} {a b c : World} (h : Below B a b) (k : Below B b c) : Below B a c := ⟨k.os.trans h.os, k.tape.trans h.tape, k.output.trans h.output, Nat.le_trans h.size k.size, fun j hj => (k.block j hj).trans (h.block j hj)⟩
theorem bel_le {B B' : Nat} {a b : World} (h : Below B' a b) (hB : B ≤ B') : Below B a b := ⟨h.os, h.tape, h.output, h.size, fun j hj => h.block j (by omega)⟩
/-- one record more behind a row of the call's own -/
theorem push_is {base : Nat} {wq wx : World} {va : Value} {ls : List (List Value)} (hJ : JR TR 4 wq base va ls) (hb : base ≤ wq.heap.size) (r : Rec) (hwx : wx = wq.alloc (.cells #[.int .u64 (r.lsn : Int), .int .i64 r.kind, .string r.key, .string r.val] TR)) (hl : ls.length ≤ 2199023255552) :
    ∃ g cap w5, (Builtin.append_ #[24, 24] 24 #[va, .slice (some ⟨wq.heap.size, 0, none⟩) 1 1]).run Try.prog wx = .ok (.slice (some ⟨g, 0, none⟩) (ls.length + 1) cap) w5 ∧ JR TR 4 w5 base (.slice (some ⟨g, 0, none⟩) (ls.length + 1) cap) (ls ++ [rcl r]) ∧
      Below base wq w5 ∧ ∀ b, b < wq.heap.size → (∀ cur, wq.heap[b]? ≠ some (.cells cur TR (0, 0))) → w5.heap[b]? = wq.heap[b]? := by
  have hJx : JR TR 4 wx base va ls := by rw [hwx]; exact hJ.alloc _
  have hBx : Blk wx wq.heap.size TR (rcl r) := by rw [hwx]; exact Blk.new wq TR (rcl r)
  have hsx : wx.heap.size = wq.heap.size + 1 := by rw [hwx]; simp
  have hkx : ∀ b, b < wq.heap.size → wx.heap[b]? = wq.heap[b]? := fun b hb' => by rw [hwx]; exact (MapKept.heap_alloc wq _).2 b hb'
  obtain ⟨g, cap, w5, e1, h2, h3, _⟩ := run_append_jr (S := 24) Try.underlying24 info_rec rfl (by decide) 24 wx base va ls hJx wq.heap.size 1 (rcl r) rfl (by intro u hu; simp [rcl] at hu; rcases hu with rfl | rfl | rfl | rfl <;> rfl) (fun j u hu => hBx.cell j u hu) (by omega) (by unfold maxLen; omega) (by omega)
  refine ⟨g, cap, w5, e1, h2, ⟨h3.os.trans (by rw [hwx]; rfl), h3.tape.trans (by rw [hwx]; rfl), h3.output.trans (by rw [hwx]; rfl), by have := h3.size; omega, fun j hj => ?_⟩, fun b hb' hc => ?_⟩
  · exact (h3.block j (by omega) (fun q => by have := hJ.blk_ge j q.symm; omega)).trans (hkx j (by omega))
  · refine (h3.block b (by omega) (fun q => ?_)).trans (hkx b hb')
    obtain ⟨_, _, ⟨rfl, _⟩ | ⟨g', cap', cur, rfl, _, hh, _⟩⟩ := hJ
    · cases q
    · have e' : b = g' := by injection q
      subst e'
      exact hc _ hh
theorem order_at {es : List Rec} (hkk : ∀ e ∈ es, e.key.size ≤ maxLen) {k : Nat} (hlt : k < es.length) : ∃ (s : ByteArray) (r : Rec), s.size ≤ maxLen ∧ (ksL es)[k]? = some s.data.toList ∧ (inOrder es)[k]? = some r ∧ gtR es s = r := by
  have hk : k < (ksL es).length := by rw [ksL_len]; exact hlt
  have hm : (ksL es)[k] ∈ es.map kb := (List.mergeSort_perm _ _).mem_iff.1 (List.getElem_mem hk)
  obtain ⟨e, he, hx⟩ := List.mem_map.1 hm
  have h1 : (ksL es)[k]? = some e.key.data.toList := by rw [List.getElem?_eq_getElem hk, ← hx]; rfl
  refine ⟨e.key, gtR es e.key, hkk e he, h1, ?_, rfl⟩
  show (((es.map kb).mergeSort leB).map fun k => gtR es ⟨k.toArray⟩)[k]? = _
  have h2 : ((es.map kb).mergeSort leB)[k]? = some e.key.data.toList := h1
  rw [List.getElem?_map, h2]
  have : (⟨e.key.data.toList.toArray⟩ : ByteArray) = e.key := by rcases e with ⟨_, _, ⟨⟨x⟩⟩, _⟩; rfl
  simp only [Option.map_some, this]
theorem key_at {w6 wq : World} {base : Nat} {av : Option Addr} {n cv : Nat} {ks : List U8s} (h : w6.ownsRow base TS 1 (.slice av n cv) n (ks.map encStr)) (hkl : ks.length = n) (hng : ∀ g, (Value.slice av n cv).ownBlock = some g → wq.heap[g]? = w6.heap[g]?) {k : Nat} (hlt : k < n) {s : ByteArray} (hs : ks[k]? = some s.data.toList) :
    ∃ g, av = some ⟨g, 0, none⟩ ∧ wq.cell? ⟨g, k, none⟩ = some (.string s) ∧ n ≤ cv ∧ cv ≤ maxLen ∧ g < w6.heap.size ∧ ∃ cur, w6.heap[g]? = some (.cells cur TS (0, 0)) := by
  have hJV : Ow.JV TS w6 base (.slice av n cv) (ks.map encStr) := ⟨fun u hu => by obtain ⟨x, _, rfl⟩ := List.mem_map.1 hu; rfl, by rw [List.length_map, hkl]; exact h⟩
  rcases h.2 with ⟨_, q⟩ | ⟨g, cap, cur, q, hge, hcu, _⟩
  · omega
  · injection q with q _ _
    subst q
    have hw : Ow.JV TS wq base (.slice (some ⟨g, 0, none⟩) n cv) (ks.map encStr) := hJV.same fun g' q' => by
      obtain rfl : g = g' := by simpa [Value.ownBlock] using q'
      exact hng g rfl
    refine ⟨g, rfl, ?_, hw.at.2.1, hw.at.2.2.1, (Array.getElem?_eq_some_iff.1 hcu).1, cur, hcu⟩
    refine (hw.at.2.2.2.2.2 k _ ?_).1
    rw [List.getElem?_map, hs]
    rcases s with ⟨⟨x⟩⟩; rfl
set_option maxRecDepth 100000 in
set_option maxHeartbeats 1000000 in
theorem fold_is (w : World) (v : Value) (rs : List Rec) (h : IsR w v rs) (hl : rs.length ≤ 1099511627776) :
    Calls Try.prog 8 #[v] w fun x w' => ∃ u es, x = .returned u ∧ Cnt rs es ∧ Srt es ∧ es.length ≤ rs.length ∧ JR TR 4 w' w.heap.size u (es.map rcl) ∧ Below w.heap.size w w' := by
  obtain ⟨av, cv, rfl⟩ := h.shape
  have HI := hd h
  clear h
  have hmm := @run_makeMap Try.prog
  go_enter Try.func8, Try.ntmps8
  go_wp2_with fail
  have HM0 := hd (MR.new w)
  have HB0 : Hid (Below w.heap.size w (w.alloc (.map #[] 0))) := (Below.refl _ w).alloc (Nat.le_refl _) _
  obtain ⟨m, hm⟩ : ∃ m, m = w.heap.size := ⟨_, rfl⟩
  have hml : w.heap.size ≤ m := by omega
  rw [← hm] at HM0 ⊢
  have HML := hd hm
  clear hm
  go_loopw [12] (fun i wr => ∃ (k : Nat) (es : List Rec), k ≤ rs.length ∧ i = .int .i64 (k : Int) ∧ MR wr m es ∧ Dif es ∧ Cnt (rs.take k) es ∧ es.length ≤ k ∧ Below w.heap.size w wr) (fun i _ => rs.length - (intOf i).toNat)
  case atStart => exact ⟨0, [], by omega, rfl, HM0.out, List.Pairwise.nil, cnt_nil, Nat.le_refl _, HB0.out⟩
  case round =>
    obtain ⟨k, es, hk, rfl, hM, hD, hC, hle, hb⟩ := hrel
    have HM := hd hM; have HD := hd hD; have HC := hd hC; have HB := hd hb
    clear hM hD hC hb HM0 HB0
    by_cases hlt : k < rs.length
    · obtain ⟨r, hr⟩ : ∃ r, rs[k]? = some r := ⟨_, List.getElem?_eq_getElem hlt⟩
      have hrl := HI.out.1 r (List.mem_of_getElem? hr)
      rcases (HI.out.below HB.out).2 with ⟨rfl, _⟩ | ⟨b, off, c, he, hlc, hcm, hbl, hop⟩
      · simp at hlt
      injection he with he1 he2 he3
      subst he1 he3
      have c0 : wr.cell? ⟨b, off + k * 4, none⟩ = some (.int .u64 (r.lsn : Int)) := hop k r hr 0 _ rfl
      have c1 := hop k r hr 1 _ rfl
      have c2 := hop k r hr 2 _ rfl
      have c3 := hop k r hr 3 _ rfl
      have htk : rs.take (k + 1) = rs.take k ++ [r] := by rw [List.take_add_one, hr]; rfl
      have hst := HC.out.step HD.out r
      rw [← htk] at hst
      have HST := hd hst
      obtain ⟨g, hg⟩ : ∃ g, g = gtR es r.key := ⟨_, rfl⟩
      have hgl : g.lsn < 18446744073709551616 := by
        rw [hg]; unfold gtR
        cases hf : fnR es r.key with
        | none => decide
        | some e => exact (HI.out.1 e (List.mem_of_mem_take (HC.out.mem e (fnR_some hf).1))).1
      obtain ⟨wx, hwx⟩ : ∃ wx, wx = wr.alloc (.cells #[.int .u64 (r.lsn : Int), .int .i64 r.kind, .string r.key, .string r.val] TR) := ⟨_, rfl⟩
      have hbx : Below wr.heap.size wr wx := by rw [hwx]; exact (Below.refl _ wr).alloc (Nat.le_refl _) _
      have hMx : MR wx m es := HM.out.below hbx
      have hlk := hMx.look (s := r.key) hrl.2
      rw [← hg] at hlk HST
      rw [hwx] at hlk
      have HCP := hd (compare_is r g hrl.1 hgl wx)
      have hBx : Blk wx wr.heap.size TR (rcl r) := by rw [hwx]; exact Blk.new wr TR (rcl r)
      have HMx := hd hMx; have HBx := hd hBx; have HX := hd hwx; have HBX := hd hbx
      have hsx : wr.heap.size < wx.heap.size := by rw [hwx]; simp
      clear hop hst hg hgl hMx hBx hwx hbx
      simp only [rv] at hlk HCP
      go_wp2_with fail
      rw [← HX.out]
      refine Calls.mono HCP.out ?_
      rintro x w2 ⟨rfl, hb2⟩
      have hM2 := HMx.out.below hb2
      have hB2 : Blk w2 wr.heap.size TR (rcl r) := (hb2.block _ hsx).trans HBx.out
      have hbw : Below w.heap.size w w2 := by
        have h1 := HB.out; have h2 := HBX.out
        exact ⟨hb2.os.trans (h2.os.trans h1.os), hb2.tape.trans (h2.tape.trans h1.tape), hb2.output.trans (h2.output.trans h1.output), by have := hb2.size; have := h2.size; have := h1.size; omega, fun j hj => (hb2.block j (by have := h2.size; have := h1.size; omega)).trans ((h2.block j (by have := h1.size; omega)).trans (h1.block j hj))⟩
      have d0 : w2.cell? ⟨wr.heap.size, 0, none⟩ = some (.int .u64 (r.lsn : Int)) := hB2.cell 0 _ rfl
      have d1 : w2.cell? ⟨wr.heap.size, 1, none⟩ = some (.int .i64 r.kind) := hB2.cell 1 _ rfl
      have d2 : w2.cell? ⟨wr.heap.size, 2, none⟩ = some (.string r.key) := hB2.cell 2 _ rfl
      have d3 : w2.cell? ⟨wr.heap.size, 3, none⟩ = some (.string r.val) := hB2.cell 3 _ rfl
      have HBW := hd hbw
      have HTK := hd htk
      by_cases hcp : 0 < cp r g
      · obtain ⟨w3, hr3, hM3, ht3⟩ := hM2.store HD.out r hrl.2 (by unfold maxLen; omega)
        have hD3 := ptR_dif HD.out r
        have hl3 : (ptR es r).length ≤ k + 1 := by rw [ptR_len HD.out]; split <;> omega
        have hb3 : Below w.heap.size w w3 := by
          have hg := ht3.grown
          exact ⟨hg.os.trans hbw.os, hg.tape.trans hbw.tape, hg.output.trans hbw.output, Nat.le_trans hbw.size hg.size, fun j hj => (hg.block j (by have := hbw.size; omega) (fun q => by injection q with q; omega)).trans (hbw.block j hj)⟩
        have HR : Hid (MR w3 m (ptR es r) ∧ Dif (ptR es r) ∧ Cnt (rs.take (k + 1)) (ptR es r) ∧ (ptR es r).length ≤ k + 1 ∧ Below w.heap.size w w3) := ⟨hM3, hD3, HST.out.1 hcp, hl3, hb3⟩
        simp only [rv] at hr3
        clear hM2 hB2 hbw hM3 ht3 hD3 hl3 hb3 htk HCP hb2
        go_wp2_with fail
        go_roundw
        case rel => exact ⟨k + 1, _, by omega, by go_num, HR.out⟩
        case measure => simp [intOf]; omega
      · have HR : Hid (MR w2 m es ∧ Dif es ∧ Cnt (rs.take (k + 1)) es ∧ es.length ≤ k + 1 ∧ Below w.heap.size w w2) := ⟨hM2, HD.out, HST.out.2 (by omega), by omega, hbw⟩
        clear hM2 hB2 hbw htk HCP hb2
        go_wp2_with fail
        go_roundw
        case rel => exact ⟨k + 1, _, by omega, by go_num, HR.out⟩
        case measure => simp [intOf]; omega
    · obtain rfl : rs.length = k := by omega
      rw [List.take_length] at HC
      have hln := HM.out.len 3
      obtain ⟨i0, hi, hz0, hz1, hz2⟩ := info_parts info_rec
      obtain ⟨w4, hr4, hrow4, hg4⟩ := run_make_own (P := Try.prog) wr w.heap.size 24 TR i0 _ 4 Try.underlying24 hi hz0 hz1 .i64 .i64 es.length (by rw [hz2]; omega) (by unfold maxLen; omega) HB.out.size
      have hJ4 : JR TR 4 w4 w.heap.size (.slice (some ⟨wr.heap.size, 0, none⟩) 0 es.length) [] := ⟨(fun _ q => by cases q), hrow4⟩
      have hb4 : Below wr.heap.size wr w4 := ⟨hg4.os, hg4.tape, hg4.output, hg4.size, fun k hk => hg4.block k hk (by simp)⟩
      have hM4 := HM.out.below hb4
      have hkk : ∀ e ∈ es, e.key.size ≤ maxLen := fun e he => (HI.out.1 e (HC.out.mem e he)).2
      have HK := hd (callsIn_wide.1 (Nms.maps_Keys (some m) w4))
      have HSO := hd (sorted_keys w4 m es hM4 HD.out hkk (by omega))
      have HJ4 := hd hJ4; have HM4 := hd hM4; have HKK := hd hkk
      have HBw : Hid (Below w.heap.size w w4) := by
        have h1 := HB.out
        exact ⟨hb4.os.trans h1.os, hb4.tape.trans h1.tape, hb4.output.trans h1.output, by have := hb4.size; have := h1.size; omega, fun j hj => (hb4.block j (by have := h1.size; omega)).trans (h1.block j hj)⟩
      clear hrow4 hg4 hJ4 hb4 hM4 hkk hi hz0 hz1 hz2
      go_wp2_with fail
      refine Calls.mono HK.out ?_
      rintro x w5 ⟨rfl, hw5⟩
      rw [hw5]
      clear hw5 HK
      go_wp2_with fail
      refine Calls.mono HSO.out ?_
      rintro x w6 ⟨v, rfl, hrow, hb6⟩
      obtain ⟨av2, cv2, rfl⟩ : ∃ av cv, v = .slice av es.length cv := by
        rcases hrow.2 with ⟨rfl, e⟩ | ⟨g, cap, cur, rfl, _⟩
        · exact ⟨none, 0, by rw [e]⟩
        · exact ⟨_, cap, rfl⟩
      have HR6 := hd hrow; have HB6 := hd hb6
      clear hrow hb6 HSO
      go_wp2_with fail
      go_loopw [6, 35] (fun va i wq => ∃ k : Nat, k ≤ es.length ∧ i = .int .i64 (k : Int) ∧ JR TR 4 wq w.heap.size va (((inOrder es).take k).map rcl) ∧ MR wq m es ∧ Below w.heap.size w wq ∧ ∀ g, (Value.slice av2 es.length cv2).ownBlock = some g → wq.heap[g]? = w6.heap[g]?) (fun _ i _ => es.length - (intOf i).toNat)
      case atStart => exact ⟨0, by omega, rfl, HJ4.out.keepAll HB6.out, HM4.out.below HB6.out, bel_tr HBw.out (bel_le HB6.out HBw.out.size), fun _ _ => rfl⟩
      case round =>
        obtain ⟨k, hk, rfl, hJ, hM, hb, hng⟩ := hrel
        have HJ := hd hJ; have HMq := hd hM; have HBq := hd hb; have HNG := hd hng
        clear hJ hM hb hng HJ4 HM4 HBw HB6
        by_cases hlt : k < es.length
        · obtain ⟨s, r, hs, hk1, hk2, hgs⟩ := order_at HKK.out hlt
          obtain ⟨g, hgw, cn, hn1, hn2, hgl, cur, hcu⟩ := key_at HR6.out (ksL_len es) HNG.out hlt hk1
          subst hgw
          have hlk := HMq.out.look (s := s) hs
          rw [hgs] at hlk
          obtain ⟨wx, hwx⟩ : ∃ wx, wx = wr.alloc (.cells #[.int .u64 (r.lsn : Int), .int .i64 r.kind, .string r.key, .string r.val] TR) := ⟨_, rfl⟩
          have hlt2 : (((inOrder es).take k).map rcl).length = k := by rw [List.length_map, List.length_take, inOrder_len]; omega
          obtain ⟨g5, c5, w5, hr5, hJ5, hb5, hk5⟩ := push_is HJ.out HBq.out.size r hwx (by rw [hlt2]; omega)
          rw [hlt2] at hr5 hJ5
          rw [append_hid, hwx] at hr5
          have HREL : Hid (JR TR 4 w5 w.heap.size (.slice (some ⟨g5, 0, none⟩) (k + 1) c5) (((inOrder es).take (k + 1)).map rcl) ∧ MR w5 m es ∧ Below w.heap.size w w5 ∧ ∀ g', (Value.slice (some ⟨g, 0, none⟩) es.length cv2).ownBlock = some g' → w5.heap[g']? = w6.heap[g']?) := by
            refine ⟨?_, HMq.out.same (hk5 m HMq.out.lt fun cur q => ?_), bel_tr HBq.out hb5, fun g' q => ?_⟩
            · rw [List.take_add_one, hk2, List.map_append]; exact hJ5
            · obtain ⟨D, ⟨x, c, h1, _⟩, _⟩ := HMq.out
              rw [h1] at q
              cases q
            · obtain rfl : g = g' := by simpa [Value.ownBlock] using q
              have h0 := HNG.out g rfl
              refine (hk5 g (Array.getElem?_eq_some_iff.1 (h0.trans hcu)).1 fun cur' q' => ?_).trans h0
              rw [h0, hcu] at q'
              injection q' with q'
              injection q' with _ q' _
              revert q'
              decide
          simp only [rv] at hlk
          clear hJ5 hb5 hk5 hwx hcu hk1 hk2 hgs hlt2
          go_wp2_with fail
          go_roundw
          case rel => exact ⟨k + 1, by omega, by go_num, HREL.out⟩
          case measure => simp [intOf]; omega
        · obtain rfl : es.length = k := by omega
          rw [List.take_of_length_le (Nat.le_of_eq (inOrder_len es))] at HJ
          go_wp2_with fail
          go_ret
          exact ⟨_, inOrder es, rfl, HC.out.ordered HD.out, inOrder_srt HD.out, by rw [inOrder_len]; exact hle, HJ.out, HBq.out⟩
end Fd
end Go.Proofs.Ytfaoemmkcmijfab
