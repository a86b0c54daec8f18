/-
  What Files and Lasting tell of a file.
  scan.marks: of each kind that a frame may have, whether it is named.
-/
import Derived.Test.YtolddolfpnkndaaGreatXuaf
import Derived.Test.YtolddolfpnkndaaGreatXuah
import Derived.Test.YtolddolfpnkndaaGreatXubs
import Derived.Test.YtolddolfpnkndaaGreatXubo
namespace Go.Proofs.YtolddolfpnkndaaGreat
open Go.RowKit Go.Maps Go.Sort
namespace Dk
open Vt
attribute [local go_sem ↓] append_hid
/-- what is told of a file -/
def Pt (w : World) (l : List Nat) (x : Ending) (w2 : World) : Prop := ∃ a c, x = .returned (.slice a l.length c) ∧ IsB w2 (.slice a l.length c) l ∧ Below w.heap.size w w2
theorem part1_is (w : World) (b : Nat) (v : Value) (dat : List Nat) (las : Nat) (hb : Blk w b TF [v, .int .i64 (las : Int)]) (hJ : JB w 0 v dat) : Calls Tryz.prog 34 #[.pointer (some ⟨b, 0, none⟩)] w fun x w2 => Pt w dat x w2 := by
  obtain ⟨a, c, rfl, hlc⟩ := hJ.shape
  have c0 := hb.cell 0 _ rfl
  have HJ := hd hJ.isB
  clear hb hJ
  go_enter Tryz.func34, Tryz.ntmps34
  go_wp2_with fail
  go_ret
  exact ⟨a, c, rfl, HJ.out, Below.refl _ _⟩
abbrev TFl : TypeId := 51
abbrev TFs : TypeId := 45
theorem info_file : (Tryz.prog.info? TFl).map (fun i => (i.zero, i.size, i.bytes)) = some (some (.agg #[.string ⟨#[]⟩, .slice none 0 0]), 2, 40) := by kernel_rfl
/-- files in memory, of the call's own -/
def FLs (w : World) (lo : Nat) (v : Value) (l : List (ByteArray × List Nat)) : Prop := ∃ cs : List (ByteArray × List Nat × Value), cs.map (fun c => (c.1, c.2.1)) = l ∧ Ow.JP TFl w lo v (cs.map fun c => (.string c.1, c.2.2)) ∧ ∀ c ∈ cs, JB w lo c.2.2 c.2.1
theorem fls_nil (w : World) (lo : Nat) : FLs w lo (.slice none 0 0) [] := ⟨[], rfl, Ow.jp_nil _ _, fun c hc => by cases hc⟩
theorem FLs.shape {w : World} {lo : Nat} {v : Value} {l : List (ByteArray × List Nat)} (h : FLs w lo v l) : ∃ a c, v = .slice a l.length c ∧ l.length ≤ c := by
  obtain ⟨cs, rfl, hJ, _⟩ := h
  obtain ⟨a, c, e, h2⟩ := hJ.shape
  simp only [List.length_map] at e h2 ⊢
  exact ⟨a, c, e, h2⟩
theorem jb_lt {w : World} {lo : Nat} {v : Value} {l : List Nat} (h : JB w lo v l) : ∀ g, v.ownBlock = some g → g < w.heap.size ∧ lo ≤ g := by
  intro g hg
  obtain ⟨_, _, ⟨rfl, _⟩ | ⟨g1, c1, cur1, rfl, q0, hh1, _⟩⟩ := h
  · cases hg
  · have e : g1 = g := by simpa [Value.ownBlock] using hg
    subst e
    exact ⟨(Array.getElem?_eq_some_iff.1 hh1).1, q0⟩
theorem jb_raise {w : World} {lo : Nat} {v : Value} {l : List Nat} (h : JB w 0 v l) (hg : ∀ g, v.ownBlock = some g → lo ≤ g) : JB w lo v l := by
  obtain ⟨h1, h2, h3 | ⟨g1, c1, cur1, rfl, q0, hr⟩⟩ := h
  · exact ⟨h1, h2, .inl h3⟩
  · exact ⟨h1, h2, .inr ⟨g1, c1, cur1, rfl, hg g1 rfl, hr⟩⟩
theorem FLs.same {w w' : World} {lo : Nat} {v : Value} {l : List (ByteArray × List Nat)} (h : FLs w lo v l) (hb : ∀ g, lo ≤ g → g < w.heap.size → w'.heap[g]? = w.heap[g]?) : FLs w' lo v l := by
  obtain ⟨cs, e, hJ, hc⟩ := h
  exact ⟨cs, e, hJ.same fun g q => hb g (hJ.blk_ge g q) (hJ.blk_lt g q), fun c m => JB.same (hc c m) fun g q => hb g (jb_lt (hc c m) g q).2 (jb_lt (hc c m) g q).1⟩
theorem fls_push {wr w2 w3 : World} {lo : Nat} {va : Value} {l : List (ByteArray × List Nat)} (s : ByteArray) (ua : Option Addr) (un uc : Nat) (dat : List Nat) (h : FLs wr lo va l) (hlo : lo ≤ wr.heap.size) (hb2 : Below wr.heap.size wr w2) (hg3 : w2.grownBy w3 none)
    (hJ : JB w3 0 (.slice ua un uc) dat) (hu : ∀ g, (Value.slice ua un uc).ownBlock = some g → w2.heap.size ≤ g) (hl : l.length ≤ 3300000000200) :
    ∃ g cap w5, (Builtin.append_ #[TFs, TFs] TFs #[va, .slice (some ⟨w3.heap.size, 0, none⟩) 1 1]).run Tryz.prog (w3.alloc (.cells #[.string s, .slice ua un uc] TFl)) = .ok (.slice (some ⟨g, 0, none⟩) (l.length + 1) cap) w5 ∧ FLs w5 lo (.slice (some ⟨g, 0, none⟩) (l.length + 1) cap) (l ++ [(s, dat)]) ∧
      Below lo wr w5 ∧ ∀ b T, Ow.BT wr b T → T ≠ TFl → w5.heap[b]? = wr.heap[b]? := by
  obtain ⟨cs, rfl, hP, hc⟩ := h
  have hs2 := hb2.size
  have hs3 := hg3.size
  have hk3 : ∀ k, k < w2.heap.size → w3.heap[k]? = w2.heap[k]? := fun k hk => hg3.block k hk (by simp)
  have hk : ∀ k, k < wr.heap.size → (w3.alloc (.cells #[.string s, .slice ua un uc] TFl)).heap[k]? = wr.heap[k]? := fun k hk => ((MapKept.heap_alloc w3 _).2 k (by omega)).trans ((hk3 k (by omega)).trans (hb2.block k hk))
  have hP4 : Ow.JP TFl (w3.alloc (.cells #[.string s, .slice ua un uc] TFl)) lo va (cs.map fun c => (.string c.1, c.2.2)) := hP.same fun g q => hk g (hP.blk_lt g q)
  have hsz : (w3.alloc (.cells #[.string s, .slice ua un uc] TFl)).heap.size = w3.heap.size + 1 := by simp
  have hblk : Blk (w3.alloc (.cells #[.string s, .slice ua un uc] TFl)) w3.heap.size TFl [.string s, .slice ua un uc] := (MapKept.heap_alloc w3 _).1
  simp only [List.length_map] at hl
  obtain ⟨g2, c2, w5, hr2, j2, hg2, hw2⟩ := Jp.run_append_jp (S := TFs) Tryz.underlying45 info_file rfl TFs (w3.alloc (.cells #[.string s, .slice ua un uc] TFl)) lo va (cs.map fun c => (.string c.1, c.2.2)) [(.string s, .slice ua un uc)] ⟨w3.heap.size, 0, none⟩ 1 1 hP4 (by intro p hp; simp at hp; subst hp; exact ⟨rfl, rfl⟩) rfl (by decide)
    (fun j u hj => by
      match j, hj with
      | 0, hj => obtain rfl := Option.some.inj hj; exact hblk.cell 0 _ rfl
      | 1, hj => obtain rfl := Option.some.inj hj; exact hblk.cell 1 _ rfl) (by rw [List.length_map]; omega) (by rw [List.length_map]; unfold maxLen; omega) (by rw [hsz]; omega)
  rw [List.length_map] at hr2 j2
  have hkT : ∀ b T, Ow.BT (w3.alloc (.cells #[.string s, .slice ua un uc] TFl)) b T → T ≠ TFl → w5.heap[b]? = (w3.alloc (.cells #[.string s, .slice ua un uc] TFl)).heap[b]? := fun b T hT hne => hg2.block b (by obtain ⟨c, q⟩ := hT; exact (Array.getElem?_eq_some_iff.1 q).1) fun q => Ow.BT.ne hT (hP4.bt q.symm) hne rfl
  have h8 : (5 : TypeId) ≠ TFl := by decide
  rw [List.length_map]
  refine ⟨g2, c2, w5, hr2, ⟨cs ++ [(s, dat, .slice ua un uc)], by simp, by rw [List.map_append]; exact j2, fun c hm => ?_⟩, ⟨hg2.os.trans (hg3.os.trans hb2.os), hg2.tape.trans (hg3.tape.trans hb2.tape), hg2.output.trans (hg3.output.trans hb2.output), by have := hg2.size; omega, fun k hk' => ?_⟩, fun b T hT hne => ?_⟩
  · rcases List.mem_append.1 hm with hm | hm
    · refine JB.same (hc c hm) fun g q => ?_
      have h1 := jb_lt (hc c hm) g q
      obtain ⟨cur, h2⟩ := jb_row (hc c hm) q
      exact (hkT g _ ⟨cur, (hk g h1.1).trans h2⟩ h8).trans (hk g h1.1)
    · simp at hm
      subst hm
      refine JB.same (w := w3) (jb_raise hJ fun g q => by have := hu g q; omega) fun g q => ?_
      have h1 := (jb_lt hJ g q).1
      obtain ⟨cur, h2⟩ := jb_row hJ q
      have h3 := (MapKept.heap_alloc w3 (.cells #[.string s, .slice ua un uc] TFl)).2 g h1
      exact (hkT g _ ⟨cur, h3.trans h2⟩ h8).trans h3
  · exact (hg2.block k (by omega) fun q => by have := hP4.blk_ge k q.symm; omega).trans (hk k (by omega))
  · have hlt : b < wr.heap.size := by obtain ⟨c, q⟩ := hT; exact (Array.getElem?_eq_some_iff.1 q).1
    obtain ⟨c, q⟩ := hT
    exact (hkT b T ⟨c, (hk b hlt).trans q⟩ hne).trans (hk b hlt)
def partOf (e : En) (all : Bool) : List Nat := if all then e.dat else e.dat.take e.las
/-- what is told of all files -/
def tl (es : List En) (all : Bool) : List (ByteArray × List Nat) := (nmsL es).map fun s => (⟨s.toArray⟩, ((fnd es ⟨s.toArray⟩).map (partOf · all)).getD [])
theorem nmsL_len (es : List En) : (nmsL es).length = es.length := by unfold nmsL; rw [List.length_mergeSort, List.length_map]
theorem nmsL_at {all : Bool} (es : List En) (k : Nat) (hk : k < es.length) : ∃ e ∈ es, fnd es e.nm = some e ∧ (nmsL es)[k]? = some e.nm.data.toList ∧ (tl es all)[k]? = some (e.nm, partOf e all) := by
  have hk' : k < (nmsL es).length := by rw [nmsL_len]; exact hk
  have hm : (nmsL es)[k] ∈ (es.map fun e => e.nm.data.toList) := by
    have := List.getElem_mem hk'
    unfold nmsL at this
    exact (List.mergeSort_perm _ _).mem_iff.1 this
  obtain ⟨e, he, hx⟩ := List.mem_map.1 hm
  cases q : fnd es e.nm with
  | none => exact absurd rfl (fnd_none.1 q e he)
  | some e' =>
    obtain ⟨h1, h2⟩ := fnd_mem q
    have h3 : (nmsL es)[k]? = some e'.nm.data.toList := by rw [List.getElem?_eq_getElem hk', ← hx, h2]
    refine ⟨e', h1, by rw [h2]; exact q, h3, ?_⟩
    unfold tl
    rw [List.getElem?_map, h3]
    have : (⟨e'.nm.data.toList.toArray⟩ : ByteArray) = e'.nm := by rcases e' with ⟨⟨⟨x⟩⟩, _⟩; rfl
    simp only [Option.map_some, this]
    rw [h2, q]; rfl
set_option maxRecDepth 100000 in
set_option maxHeartbeats 1000000 in
theorem tell_is (w : World) (d m : Nat) (es : List En) (O : Nat → Prop) (S : Ds) (ff : FuncId) (all : Bool) (h : DKm w d m es O S) (hA : S.acts ≤ 3300000000000)
    (hcf : ∀ (a : Array Value) (w : World), (callFunc ff a).run Tryz.prog w = .ok (.enter ff a) w)
    (hp : ∀ (w1 : World) (e : En), e ∈ es → Blk w1 e.blk TF [e.val, .int .i64 (e.las : Int)] → JB w1 0 e.val e.dat → Calls Tryz.prog ff #[.pointer (some ⟨e.blk, 0, none⟩)] w1 fun x w2 => Pt w1 (partOf e all) x w2) :
    Calls Tryz.prog 33 #[.pointer (some ⟨d, 0, none⟩), .func (.func ff) #[] #[]] w fun x w2 => ∃ v, x = .returned v ∧ FLs w2 w.heap.size v (tl es all) ∧ Below w.heap.size w w2 := by
  have HNM := hd (names_is w d m es O S h hA)
  have hcnt : es.length ≤ S.acts + 200 := by have := h.good.cnt; rw [h.fs, List.length_map] at this; exact this
  have hdl : ∀ e ∈ es, (partOf e all).length ≤ 140737488355328 := fun e he => by
    have h1 := get_len_le (get_of_mem (fs := S.fs) h.good.names (f := e.fi) (by rw [h.fs]; exact List.mem_map_of_mem he))
    have h2 := h.good.used
    have h3 := h.good.room
    have h4 := h.good.cap
    have h5 : (partOf e all).length ≤ e.dat.length := by unfold partOf; split; exact Nat.le_refl _; rw [List.length_take]; omega
    have h6 : e.fi.dat.length = e.dat.length := rfl
    omega
  have HK := hd h
  have HP := hd hp
  clear h hp
  go_enter Tryz.func33, Tryz.ntmps33
  go_wp2_with fail
  refine Calls.mono HNM.out ?_
  rintro x w1 ⟨v, rfl, hrow, hnil, hb⟩
  have HR := hd hrow
  have HB := hd hb
  obtain ⟨av, cv, rfl⟩ : ∃ av cv, v = .slice av es.length cv := by
    rcases hrow.2 with ⟨rfl, e⟩ | ⟨g, cap, cur, rfl, _⟩
    · exact ⟨none, 0, by rw [e]⟩
    · exact ⟨_, cap, rfl⟩
  clear hrow hb hnil
  go_wp2_with fail
  go_loopw [5, 11] (fun va i wr => ∃ k : Nat, k ≤ es.length ∧ i = .int .i64 (k : Int) ∧ FLs wr w.heap.size va ((tl es all).take k) ∧ Below w.heap.size w wr ∧ ∀ g, (Value.slice av es.length cv).ownBlock = some g → wr.heap[g]? = w1.heap[g]?) (fun va i _ => es.length - (intOf i).toNat)
  case atStart => exact ⟨0, by omega, rfl, fls_nil _ _, HB.out, fun _ _ => rfl⟩
  case round =>
    obtain ⟨k, hk, rfl, hF, hbk, hng⟩ := hrel
    have HF := hd hF
    have HBk := hd hbk
    have HNG := hd hng
    clear hF hbk hng
    by_cases hlt : k < es.length
    · obtain ⟨e, he, hfe, hn1, hn2⟩ := nmsL_at (all := all) es k hlt
      obtain ⟨g, rfl, hge, cell⟩ : ∃ g, av = some ⟨g, 0, none⟩ ∧ w.heap.size ≤ g ∧ ∀ wq : World, wq.heap[g]? = w1.heap[g]? → wq.cell? ⟨g, k, none⟩ = some (.string e.nm) := by
        have hJV : Ow.JV TS w1 w.heap.size (.slice av es.length cv) ((nmsL es).map encStr) := ⟨fun u hu => by obtain ⟨x, _, rfl⟩ := List.mem_map.1 hu; rfl, by rw [List.length_map, nmsL_len]; exact HR.out⟩
        rcases HR.out.2 with ⟨_, q⟩ | ⟨g, cap, cur, q, hge, _⟩
        · omega
        · injection q with q _ _
          subst q
          refine ⟨g, rfl, hge, fun wq hq => ?_⟩
          have hw : Ow.JV TS wq w.heap.size (.slice (some ⟨g, 0, none⟩) es.length cv) ((nmsL es).map encStr) := hJV.same fun g' q' => by
            obtain rfl : g = g' := by simpa [Value.ownBlock] using q'
            exact hq
          refine (hw.at.2.2.2.2.2 k _ ?_).1
          rw [List.getElem?_map, hn1]
          rcases e with ⟨⟨⟨x⟩⟩, _⟩; rfl
      have cn := cell wr (HNG.out g rfl)
      have hDK : DKm wr d m es O S := HK.out.keep (fun b q => HBk.out.block b (HK.out.olt b q)) HBk.out.size
      have cd := hDK.box.cell 2 _ rfl
      have hlk := hDK.map.look (s := e.nm) (isNm_len (HK.out.good.isnm e.fi (by rw [HK.out.fs]; exact List.mem_map_of_mem he)))
      rw [hfe] at hlk
      simp only [Option.map_some, ptrV] at hlk
      have HC := hd (HP.out wr e he (hDK.file e he).1 (hDK.file e he).2)
      clear hDK cell
      go_wp2_with fail
      refine Calls.mono HC.out ?_
      rintro x w2 ⟨a2, c2, rfl, hI2, hb2⟩
      have HCl := hd (clone_is w2 _ _ hI2 (hdl e he))
      have HB2 := hd hb2
      clear hI2 hb2
      go_wp2_with fail
      refine Calls.mono HCl.out ?_
      rintro x w3 ⟨a3, c3, rfl, hJ3, hg3, hl3⟩
      have hlk : ((tl es all).take k).length = k := by rw [List.length_take]; unfold tl; rw [List.length_map, nmsL_len]; omega
      obtain ⟨g5, c5, w5, hr5, hF5, hb5, ht5⟩ := fls_push e.nm a3 (partOf e all).length c3 (partOf e all) HF.out HBk.out.size HB2.out hg3 hJ3 hl3 (by rw [hlk]; omega)
      rw [hlk] at hr5 hF5
      rw [append_hid] at hr5
      have HREL : Hid (FLs w5 w.heap.size (.slice (some ⟨g5, 0, none⟩) (k + 1) c5) ((tl es all).take (k + 1)) ∧ Below w.heap.size w w5 ∧ ∀ g', (Value.slice (some ⟨g, 0, none⟩) es.length cv).ownBlock = some g' → w5.heap[g']? = w1.heap[g']?) := by
        refine ⟨?_, ⟨hb5.os.trans HBk.out.os, hb5.tape.trans HBk.out.tape, hb5.output.trans HBk.out.output, Nat.le_trans HBk.out.size hb5.size, fun j hj => (hb5.block j hj).trans (HBk.out.block j hj)⟩, fun g' q => ?_⟩
        · rw [List.take_add_one, hn2]; exact hF5
        · refine (ht5 g' TS ?_ (by decide)).trans (HNG.out g' q)
          obtain rfl : g = g' := by simpa [Value.ownBlock] using q
          rcases HR.out.2 with ⟨_, q⟩ | ⟨g6, cap, cur, q6, _, hcu, _⟩
          · omega
          · injection q6 with q6 _ _
            injection q6 with q6
            injection q6 with q6 _ _
            subst q6
            exact ⟨cur, (HNG.out g rfl).trans hcu⟩
      clear hF5 hb5 ht5 hJ3 hg3 hl3 hlk hdl
      go_wp2_with fail
      go_roundw
      case rel => exact ⟨k + 1, by omega, by go_num, HREL.out⟩
      case measure => simp [intOf]; omega
    · obtain rfl : es.length = k := by omega
      have HF' : Hid (FLs wr w.heap.size u5 (tl es all)) := by
        have q : (tl es all).take es.length = tl es all := List.take_of_length_le (by unfold tl; rw [List.length_map, nmsL_len]; exact Nat.le_refl _)
        have := HF.out
        rw [q] at this
        exact this
      clear hcnt hdl
      go_wp2_with fail
      go_ret
      exact ⟨_, rfl, HF'.out, HBk.out⟩
/-- what Files and Lasting tell, by the disk alone -/
def told (S : Ds) (all : Bool) : List (ByteArray × List Nat) := ((S.fs.map fun f => f.nm.data.toList).mergeSort leB).map fun s => (⟨s.toArray⟩, ((get S.fs ⟨s.toArray⟩).map fun f => if all then f.dat else f.dat.take f.las).getD [])
theorem tl_told {w : World} {d m : Nat} {es : List En} {O : Nat → Prop} {S : Ds} (h : DKm w d m es O S) (all : Bool) : tl es all = told S all := by
  unfold tl told nmsL
  rw [h.fs]
  simp only [List.map_map, fnd_get, Option.map_map]
  rfl
theorem cf46 (a : Array Value) (w : World) : (callFunc 34 a).run Tryz.prog w = .ok (.enter 34 a) w := by kernel_rfl
theorem files_is (w : World) (d : Nat) (O : Nat → Prop) (S : Ds) (h : DK w d O S) (hA : S.acts ≤ 3300000000000) : Calls Tryz.prog 14 #[.pointer (some ⟨d, 0, none⟩)] w fun x w2 => ∃ v, x = .returned v ∧ FLs w2 w.heap.size v (told S true) ∧ Below w.heap.size w w2 := by
  obtain ⟨m, es, h⟩ := h
  have HT := hd (tell_is w d m es O S 34 true h hA cf46 fun w1 e _ hb hJ => part1_is w1 e.blk e.val e.dat e.las hb hJ)
  rw [tl_told h] at HT
  clear h
  go_enter Tryz.func14, Tryz.ntmps14
  go_wp2_with fail
  refine Calls.mono HT.out ?_
  rintro x w2 ⟨v, rfl, hF, hB⟩
  have HF := hd hF; have HB := hd hB
  clear hF hB
  go_wp2_with fail
  go_ret
  exact ⟨_, rfl, HF.out, HB.out⟩
end Dk
end Go.Proofs.YtolddolfpnkndaaGreat
namespace Go.Proofs.YtolddolfpnkndaaGreat
open Go.RowKit Go.Shelf
namespace Vt
/-- the five marks -/
def mks (zs : List Int) : List Value := [.bool false, .bool (decide (1 ∈ zs)), .bool (decide (2 ∈ zs)), .bool (decide (3 ∈ zs)), .bool (decide (4 ∈ zs))]
theorem mks_no {zs : List Int} {z : Int} (h : ¬ (1 ≤ z ∧ z ≤ 4)) : mks (zs ++ [z]) = mks zs := by
  have e : ∀ k : Int, 1 ≤ k → k ≤ 4 → decide (k ∈ zs ++ [z]) = decide (k ∈ zs) := by
    intro k h1 h2
    have hne : (z == k) = false := by rw [beq_eq_false_iff_ne]; omega
    have hne' : (k == z) = false := by rw [beq_eq_false_iff_ne]; omega
    have : ¬ k = z := by omega
    simp [this]
  unfold mks
  rw [e 1 (by omega) (by omega), e 2 (by omega) (by omega), e 3 (by omega) (by omega), e 4 (by omega) (by omega)]
theorem mks_1 {zs : List Int} : mks (zs ++ [1]) = (mks zs).set 1 (.bool true) := by simp [mks]
theorem mks_2 {zs : List Int} : mks (zs ++ [2]) = (mks zs).set 2 (.bool true) := by simp [mks]
theorem mks_3 {zs : List Int} : mks (zs ++ [3]) = (mks zs).set 3 (.bool true) := by simp [mks]
theorem mks_4 {zs : List Int} : mks (zs ++ [4]) = (mks zs).set 4 (.bool true) := by simp [mks]
theorem take_snoc {zs : List Int} {k : Nat} (h : k < zs.length) : zs.take (k + 1) = zs.take k ++ [zs.getD k 0] := by
  rw [List.take_add_one, List.getD_eq_getElem?_getD, List.getElem?_eq_getElem h]; rfl
set_option maxRecDepth 100000 in
set_option maxHeartbeats 1000000 in
theorem marks_is (b off c : Nat) (zs : List Int) (w : World) (hb : b < w.heap.size) (hz : ∀ i, i < zs.length → w.cell? ⟨b, off + i, none⟩ = some (.int .i64 (zs.getD i 0))) (hm : zs.length ≤ 4611686018427387904) :
    Calls Tryz.prog 35 #[.slice (some ⟨b, off, none⟩) zs.length c] w fun e w' => e = .returned (.agg (mks zs).toArray) ∧ Below w.heap.size w w' := by
  have HZ := hd hz
  clear hz
  go_enter Tryz.func35, Tryz.ntmps35
  go_wp2_with fail
  go_loopw [8] (fun i wr => ∃ k : Nat, k ≤ zs.length ∧ i = .int .i64 (k : Int) ∧ Blk wr (w.heap.size + 1) 101 (mks (zs.take k)) ∧ Blk wr w.heap.size 101 (mks []) ∧ Below w.heap.size w wr) (fun i _ => zs.length - (intOf i).toNat)
  case atStart =>
    refine ⟨0, by omega, rfl, ?_, ?_, ?_⟩
    · have := Blk.new (w.alloc (.cells (mks []).toArray 101)) 101 (mks [])
      rwa [World.size_alloc] at this
    · exact (Blk.new w 101 (mks [])).alloc _
    · exact ((Below.refl _ _).alloc (Nat.le_refl _) _).alloc (by simp) _
  case round =>
    obtain ⟨k, hk, rfl, hM, hR, hB⟩ := hrel
    by_cases hlt : k < zs.length
    · have hc : wr.cell? ⟨b, off + k, none⟩ = some (.int .i64 (zs.getD k 0)) := by rw [hB.cell hb]; exact HZ.out k hlt
      have hts := take_snoc hlt
      have HM := hd hM
      have HR := hd hR
      have HB := hd hB
      have fM := hM.frozen
      clear hM hR hB
      generalize zs.getD k 0 = z at *
      have HTS := hd hts
      clear hts
      by_cases h1 : z = 1
      · subst h1
        have cM := HM.out.cell 1 _ rfl
        have HM2 := hd (HM.out.set (j := 1) (.bool true))
        rw [← mks_1, ← HTS.out] at HM2
        have HR2 := hd (HR.out.other (p := ⟨w.heap.size + 1, 1, none⟩) (by simp) (.bool true))
        have HB2 := hd (HB.out.setCell (p := ⟨w.heap.size + 1, 1, none⟩) (by simp) (.bool true))
        go_wp2_with fail
        go_roundw
        case rel => exact ⟨k + 1, by omega, by go_num, HM2.out, HR2.out, HB2.out⟩
        case measure => simp [intOf]; omega
      by_cases h2 : z = 2
      · subst h2
        have cM := HM.out.cell 2 _ rfl
        have HM2 := hd (HM.out.set (j := 2) (.bool true))
        rw [← mks_2, ← HTS.out] at HM2
        have HR2 := hd (HR.out.other (p := ⟨w.heap.size + 1, 2, none⟩) (by simp) (.bool true))
        have HB2 := hd (HB.out.setCell (p := ⟨w.heap.size + 1, 2, none⟩) (by simp) (.bool true))
        go_wp2_with fail
        go_roundw
        case rel => exact ⟨k + 1, by omega, by go_num, HM2.out, HR2.out, HB2.out⟩
        case measure => simp [intOf]; omega
      by_cases h3 : z = 3
      · subst h3
        have cM := HM.out.cell 3 _ rfl
        have HM2 := hd (HM.out.set (j := 3) (.bool true))
        rw [← mks_3, ← HTS.out] at HM2
        have HR2 := hd (HR.out.other (p := ⟨w.heap.size + 1, 3, none⟩) (by simp) (.bool true))
        have HB2 := hd (HB.out.setCell (p := ⟨w.heap.size + 1, 3, none⟩) (by simp) (.bool true))
        go_wp2_with fail
        go_roundw
        case rel => exact ⟨k + 1, by omega, by go_num, HM2.out, HR2.out, HB2.out⟩
        case measure => simp [intOf]; omega
      by_cases h4 : z = 4
      · subst h4
        have cM := HM.out.cell 4 _ rfl
        have HM2 := hd (HM.out.set (j := 4) (.bool true))
        rw [← mks_4, ← HTS.out] at HM2
        have HR2 := hd (HR.out.other (p := ⟨w.heap.size + 1, 4, none⟩) (by simp) (.bool true))
        have HB2 := hd (HB.out.setCell (p := ⟨w.heap.size + 1, 4, none⟩) (by simp) (.bool true))
        go_wp2_with fail
        go_roundw
        case rel => exact ⟨k + 1, by omega, by go_num, HM2.out, HR2.out, HB2.out⟩
        case measure => simp [intOf]; omega
      have hno : ¬ (1 ≤ z ∧ z ≤ 4) := by omega
      have HN := hd (mks_no (zs := zs.take k) hno)
      rw [← HTS.out] at HN
      rw [← HN.out] at HM
      clear h1 h2 h3 h4
      by_cases h0 : 1 ≤ z
      · have h5 : ¬ z ≤ 4 := by omega
        clear hno
        go_wp2_with fail
        go_roundw
        case rel => exact ⟨k + 1, by omega, by go_num, HM.out, HR.out, HB.out⟩
        case measure => simp [intOf]; omega
      · clear hno
        go_wp2_with fail
        go_roundw
        case rel => exact ⟨k + 1, by omega, by go_num, HM.out, HR.out, HB.out⟩
        case measure => simp [intOf]; omega
    · obtain rfl : k = zs.length := by omega
      rw [List.take_length] at hM
      have m0 := hM.cell 0 _ rfl
      have m1 := hM.cell 1 _ rfl
      have m2 := hM.cell 2 _ rfl
      have m3 := hM.cell 3 _ rfl
      have m4 := hM.cell 4 _ rfl
      have r0 := hR.cell 0 (.bool false) rfl
      have r1 := hR.cell 1 (.bool false) rfl
      have r2 := hR.cell 2 (.bool false) rfl
      have r3 := hR.cell 3 (.bool false) rfl
      have r4 := hR.cell 4 (.bool false) rfl
      have rf := hR.frozen
      have HM := hd hM
      have HR := hd hR
      have HB := hd hB
      clear hM hR hB
      go_wp2_with fail
      refine bodyPost_ret (results_cell_row rfl _ _ w.heap.size 101 (mks zs).toArray (0, 0) _ rfl ?_ Tryz.underlying101 rfl (by kernel_rfl)) rfl ?_
      · exact (((((HR.out.set (j := 0) _).set (j := 1) _).set (j := 2) _).set (j := 3) _).set (j := 4) _)
      · exact ⟨rfl, ((((HB.out.setCell (p := ⟨w.heap.size, 0, none⟩) (Nat.le_refl _) _).setCell (p := ⟨w.heap.size, 1, none⟩) (Nat.le_refl _) _).setCell (p := ⟨w.heap.size, 2, none⟩) (Nat.le_refl _) _).setCell (p := ⟨w.heap.size, 3, none⟩) (Nat.le_refl _) _).setCell (p := ⟨w.heap.size, 4, none⟩) (Nat.le_refl _) _⟩
end Vt
end Go.Proofs.YtolddolfpnkndaaGreat
