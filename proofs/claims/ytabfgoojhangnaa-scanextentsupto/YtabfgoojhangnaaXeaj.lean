/-
  THE WALK OF escape.Open: what 'plain' and 'badB' say; the plain bytes lie in a row of the call's own.
  BYTES AS A STRING, A STRING'S BYTES. No program here.
  THE WALKS OF the laws' own 'same' (by string), 'awake'.
  THE WALK OF escape.Next: bytes.IndexByte by the library's contract, laid at this program's numbers.
-/
import Derived.Test.YtabfgoojhangnaaXeai
import Derived.Test.YtabfgoojhangnaaXeaa
import Derived.Shelf.Bytes.IndexByte
namespace Go.Proofs.Ytabfgoojhangnaa
open Go.RowKit
namespace Vt
/-- what Open gives -/
def opn (l : List Nat) : List Nat := if (badB 0 l).1 = 0 then plain l else []
def OpenPost (w : World) (l : List Nat) (e : Ending) (w' : World) : Prop := ∃ u, e = .returned (.tuple #[u, .int .i64 ((badB 0 l).1 : Int), .int .i64 ((badB 0 l).2 : Int)]) ∧ JB w' w.heap.size u (opn l) ∧ Below w.heap.size w w'
set_option maxRecDepth 100000 in
set_option maxHeartbeats 400000 in
theorem open_row (b off c : Nat) (l : List Nat) (w : World) (hb : Byt l) (hbw : b < w.heap.size) (hr : Row w b off l) (hlc : l.length ≤ c) (hm : l.length ≤ 281474976710656) :
    Calls Try.prog 47 #[.slice (some ⟨b, off, none⟩) l.length c] w (OpenPost w l) := by
  obtain ⟨i0, hi, hz0, hz1, hz2⟩ := info_parts info_u8
  have HR := hd hr
  have HB := hd hb
  clear hr hb
  go_enter Try.func47, Try.ntmps47
  go_wp2_with (at_make; refine wpList_make_own _ rfl _ _ 22 rfl w.heap.size 5 i0 (.int .u8 0) 1 Try.underlying22 hi hz0 hz1 .i64 .i64 (l.length : Int) l.length rfl rfl rfl (by rw [hz2]; omega) (by unfold maxLen; omega) (Nat.le_refl _) ?_; intro w1 hown hgrow)
  have HB1 : Hid (Below w.heap.size w w1) := (Below.refl _ _).grown hgrow (Nat.le_refl _) (fun k hk => by cases hk)
  have HO1 : Hid (JB w1 w.heap.size (.slice (some ⟨w.heap.size, 0, none⟩) 0 l.length) []) := ⟨byt_nil, hown⟩
  clear hown hgrow
  go_loopw [5, 6] (fun v i wr => ∃ (at_ : Nat) (pt : List (Nat × Nat)), at_ ≤ l.length ∧ i = .int .i64 (at_ : Int) ∧ toldB 0 l = pt ++ toldB at_ (l.drop at_) ∧ badB 0 l = badB at_ (l.drop at_) ∧ v = .slice (some ⟨w.heap.size, 0, none⟩) pt.length l.length ∧ JB wr w.heap.size (.slice (some ⟨w.heap.size, 0, none⟩) pt.length l.length) (pt.map Prod.snd) ∧ Below w.heap.size w wr) (fun _ i _ => l.length - (intOf i).toNat)
  case atStart => exact ⟨0, [], by omega, rfl, rfl, rfl, rfl, HO1.out, HB1.out⟩
  case round =>
    clear HO1 HB1
    obtain ⟨at_, pt, hat, rfl, hto, hba, rfl, hJ, hBB⟩ := hrel
    have HTO := hd hto
    have HBA := hd hba
    have HJ := hd hJ
    have HBB := hd hBB
    clear hto hba hJ hBB
    by_cases hlt : at_ < l.length
    · have hne : ¬ c = at_ := by omega
      have hlat : (l.drop at_).length = l.length - at_ := List.length_drop
      have hne0 : l.drop at_ ≠ [] := by intro e; have := congrArg List.length e; rw [hlat] at this; simp at this; omega
      have HC := hd (first_is b (off + at_) (c - at_) (l.drop at_) wr (byt_drop HB.out at_) (fun k hk => by
        rw [hlat] at hk
        rw [HBB.out.cell hbw, Nat.add_assoc, HR.out (at_ + k) (by omega), List.getD_eq_getElem?_getD, List.getD_eq_getElem?_getD, List.getElem?_drop]) hne0)
      rw [hlat] at HC
      have hby := fs_byt (byt_drop HB.out at_)
      obtain ⟨d1, d2, d3, hdd⟩ : ∃ d1 d2 d3, fs (l.drop at_) = (d1, d2, d3) := ⟨_, _, _, rfl⟩
      rw [hdd] at HC hby
      simp only at hby
      unfold eans at HC
      by_cases he : d3 = 0
      · have hk := fs_len hne0 (by rw [hdd]; exact he)
        rw [hdd, hlat] at hk
        simp only at hk
        have hok := toldB_ok (at_ := at_) hne0 (by rw [hdd]; exact he)
        have hbk := badB_ok (at_ := at_) hne0 (by rw [hdd]; exact he)
        rw [hdd] at hok hbk
        simp only [List.drop_drop] at hok hbk
        have hlen2 : pt.length + 1 ≤ l.length := by
          have h1 := toldB_len 0 l
          rw [HTO.out, hok] at h1
          simp at h1; omega
        have HOK := hd hok
        have HBK := hd hbk
        subst he
        clear hok hbk hdd hne0
        have HO : Hid (wr.ownsRow w.heap.size 5 1 (.slice (some ⟨w.heap.size, 0, none⟩) pt.length l.length) pt.length (bs (pt.map Prod.snd))) := by
          have := HJ.out.2
          rw [List.length_map] at this; exact this
        go_wp2_with fail
        refine Calls.mono HC.out ?_
        rintro e w' ⟨rfl, hw'⟩
        clear HC
        subst hw'
        go_wp2_with (at_builtin; refine wpList_append_fits _ rfl _ _ 22 rfl w.heap.size 5 i0 1 Try.underlying22 hi hz1 w.heap.size pt.length l.length (bs (pt.map Prod.snd)) rfl (HO.out.alloc _) ⟨w'.heap.size, 0, none⟩ 1 1 [_] rfl rfl (cell_one_new _ _ _) (by simp [Value.oneCell']) hlen2 ?_; intro w2 hown2 hgrow2)
        have HO2 := hd (jb_snoc (y := d1) rfl hby HJ.out.1 (by rw [List.length_map]) hown2)
        have HB2 := hd ((HBB.out.alloc HBB.out.size _).grown hgrow2 (by have := HBB.out.size; simp; omega) (fun k hk => by cases hk; exact Nat.le_refl _))
        clear hown2 hgrow2 HO
        go_roundw
        case rel =>
          refine ⟨at_ + d2, pt ++ [(at_, d1)], by omega, by go_num, by rw [HTO.out, HOK.out, List.append_assoc]; rfl, by rw [HBA.out, HBK.out], by rw [List.length_append]; rfl, ?_, HB2.out⟩
          rw [List.map_append, List.length_append]
          exact HO2.out
        case measure => simp [intOf]; omega
      · have herr := badB_err (at_ := at_) hne0 (by rw [hdd]; exact he)
        rw [hdd] at herr
        have HER : Hid (badB 0 l = (d3, at_)) := HBA.out.trans herr
        have HOP : Hid (opn l = []) := by
          show opn l = []
          unfold opn; rw [HER.out, if_neg he]
        have he2 : ((d3 : Int) != 0) = true := by simp; omega
        clear herr hdd hne0
        go_wp2_with fail
        refine Calls.mono HC.out ?_
        rintro e w' ⟨rfl, hw'⟩
        clear HC
        subst hw'
        go_wp2_with fail
        go_ret3
        refine ⟨_, by rw [HER.out]; rfl, ?_, HBB.out⟩
        rw [HOP.out]; exact ⟨byt_nil, own_nil _ _⟩
    · obtain rfl : at_ = l.length := by omega
      rw [List.drop_length] at HTO HBA
      have HER : Hid (badB 0 l = (0, 0)) := HBA.out.trans (badB_nil _)
      have HPL : Hid (pt.map Prod.snd = opn l) := by
        show pt.map Prod.snd = opn l
        unfold opn plain; rw [HER.out, if_pos rfl, HTO.out, toldB_nil, List.append_nil]
      rw [HPL.out] at HJ
      go_wp2_with fail
      go_ret3
      exact ⟨_, by rw [HER.out]; rfl, HJ.out, HBB.out⟩
set_option maxRecDepth 100000 in
set_option maxHeartbeats 400000 in
theorem open_nil (a : Option Addr) (c : Nat) (w : World) : Calls Try.prog 47 #[.slice a 0 c] w (OpenPost w []) := by
  obtain ⟨i0, hi, hz0, hz1, hz2⟩ := info_parts info_u8
  go_enter Try.func47, Try.ntmps47
  go_wp2_with (at_make; refine wpList_make_own _ rfl _ _ 22 rfl w.heap.size 5 i0 (.int .u8 0) 1 Try.underlying22 hi hz0 hz1 .i64 .i64 0 0 rfl rfl rfl (by rw [hz2]; omega) (by unfold maxLen; omega) (Nat.le_refl _) ?_; intro w1 hown hgrow)
  have HB1 : Hid (Below w.heap.size w w1) := (Below.refl _ _).grown hgrow (Nat.le_refl _) (fun k hk => by cases hk)
  have HO1 : Hid (JB w1 w.heap.size (.slice (some ⟨w.heap.size, 0, none⟩) 0 0) []) := ⟨byt_nil, hown⟩
  clear hown hgrow
  go_loopw [5, 6] (fun v i wr => i = .int .i64 0 ∧ v = .slice (some ⟨w.heap.size, 0, none⟩) 0 0 ∧ wr = w1) (fun _ _ _ => 0)
  case atStart => exact ⟨rfl, rfl, rfl⟩
  case round =>
    obtain ⟨rfl, rfl, rfl⟩ := hrel
    go_wp2
    go_ret3
    exact ⟨_, rfl, HO1.out, HB1.out⟩
theorem open_is (v : Value) (l : List Nat) (w : World) (h : IsB w v l) (hm : l.length ≤ 281474976710656) : Calls Try.prog 47 #[v] w (OpenPost w l) := by
  obtain ⟨hl, _, ⟨rfl, a, c, rfl⟩ | ⟨b, off, c, rfl, h1, _, hb, hr⟩⟩ := h
  · exact open_nil a c w
  · exact open_row b off c l w hl hb hr h1 hm
end Vt
end Go.Proofs.Ytabfgoojhangnaa
namespace Go.Proofs.Ytabfgoojhangnaa
namespace Vt
/-- bytes as a string -/
def str (l : List Nat) : ByteArray := (l.map fun x => ((x : Nat) : Int)).foldl (fun r n => r.push (UInt8.ofNat n.toNat)) ByteArray.empty
theorem str_data (l : List Nat) : (str l).data = (l.map UInt8.ofNat).toArray := by
  have key : ∀ (l : List Nat) (r : ByteArray), ((l.map fun x => ((x : Nat) : Int)).foldl (fun r n => r.push (UInt8.ofNat n.toNat)) r).data = r.data ++ (l.map UInt8.ofNat).toArray := by
    intro l
    induction l with
    | nil => intro r; simp
    | cons x q ih =>
      intro r
      simp only [List.map_cons, List.foldl_cons, Int.toNat_natCast]
      rw [ih]
      simp [ByteArray.push]
  have := key l ByteArray.empty
  unfold str
  rw [this]; simp
/-- a string's bytes -/
def bl (s : ByteArray) : List Nat := s.data.toList.map UInt8.toNat
theorem bl_len (s : ByteArray) : (bl s).length = s.size := by unfold bl; rw [List.length_map, Array.length_toList]; rfl
theorem bl_byt (s : ByteArray) : Byt (bl s) := by
  intro x hx
  unfold bl at hx
  obtain ⟨y, _, rfl⟩ := List.mem_map.1 hx
  exact y.toNat_lt
theorem bl_str {l : List Nat} (h : Byt l) : bl (str l) = l := by
  unfold bl
  rw [str_data, List.map_map]
  induction l with
  | nil => rfl
  | cons x q ih =>
    have hx := h x List.mem_cons_self
    rw [List.map_cons, ih fun z hz => h z (List.mem_cons_of_mem _ hz)]
    congr 1
    simp only [Function.comp, UInt8.toNat_ofNat']
    omega
theorem str_bl (s : ByteArray) : str (bl s) = s := by
  refine ByteArray.ext ?_
  rw [str_data]
  unfold bl
  rw [List.map_map, show (UInt8.ofNat ∘ UInt8.toNat) = id by funext y; simp]
  simp
theorem bl_inj {s t : ByteArray} (h : bl s = bl t) : s = t := by rw [← str_bl s, h, str_bl]
theorem str_size {l : List Nat} (h : Byt l) : (str l).size = l.length := by rw [← bl_len, bl_str h]
theorem str_inj {la lb : List Nat} (ha : Byt la) (hb : Byt lb) : str la = str lb ↔ la = lb := by
  constructor
  · intro h
    have h2 := congrArg ByteArray.data h
    rw [str_data, str_data] at h2
    have h3 : la.map UInt8.ofNat = lb.map UInt8.ofNat := by simpa using h2
    clear h h2
    induction la generalizing lb with
    | nil => cases lb with
      | nil => rfl
      | cons y r => simp at h3
    | cons x q ih =>
      cases lb with
      | nil => simp at h3
      | cons y r =>
        simp only [List.map_cons, List.cons.injEq] at h3
        have hx := ha x List.mem_cons_self
        have hy := hb y List.mem_cons_self
        have e := congrArg UInt8.toNat h3.1
        simp only [UInt8.toNat_ofNat'] at e
        rw [ih (fun z hz => ha z (List.mem_cons_of_mem _ hz)) (fun z hz => hb z (List.mem_cons_of_mem _ hz)) h3.2]
        congr 1
        omega
  · intro h; rw [h]
end Vt
end Go.Proofs.Ytabfgoojhangnaa
namespace Go.Proofs.Ytabfgoojhangnaa
open Go.RowKit
namespace Vt
theorem str_eq {la lb : List Nat} (ha : Byt la) (hb : Byt lb) : ((str la).toList == (str lb).toList) = decide (la = lb) := by
  by_cases h : la = lb
  · subst h; simp
  · rw [decide_eq_false h, ByteArray.toList_eq, ByteArray.toList_eq, beq_eq_false_iff_ne]
    intro e
    exact h ((str_inj ha hb).1 (Go.WideShapes.bytes_inj e))
theorem conv_is (w : World) (v : Value) (l : List Nat) (h : IsB w v l) : (convert 22 9 v).run Try.prog w = .ok (.string (str l)) w := by
  obtain ⟨a, c, rfl⟩ := h.shape
  rw [run_convert_bytes_string w _ _ 5 _ _ _ Try.underlying22 Try.underlying5 Try.underlying9]
  cases a with
  | none =>
    obtain ⟨_, _, ⟨rfl, a', c', e⟩ | ⟨b, off, c', e, _⟩⟩ := h
    · rfl
    · cases e
  | some ad =>
    refine run_bytesToString w ad _ _ (l.map fun x => ((x : Nat) : Int)) ?_
    obtain ⟨_, _, ⟨rfl, a', c', e⟩ | ⟨b, off, c', e, _, _, _, hr⟩⟩ := h
    · rfl
    · injection e with e1 e2 e3
      injection e1 with e1
      subst e1
      have := run_loadCells_list (P := Try.prog) w ⟨b, off, none⟩ (bs l) (news_of_row hr)
      rw [bs_len] at this
      rw [this]
      unfold bs
      rw [List.map_map]; rfl
theorem awake_wr : wr [167, 0, 166] = [166, 1, 0, 166, 0] := by decide
end Vt
end Go.Proofs.Ytabfgoojhangnaa
namespace Go.Proofs.Ytabfgoojhangnaa
open Go.RowKit
namespace Vt
def ixRen : Go.Shelf.Ren := ⟨fun | 187 => 29 | 255 => 42 | n => n, fun | 3 => 3 | 5 => 5 | 37 => 22 | n => n, fun | n => n⟩
theorem ixLays : Go.Proofs.Lays.n187 Try.prog ixRen := {
  mixed := by kernel_rfl
  f187 := Try.func29.trans (congrArg some (by kernel_rfl))
  f255 := Try.func42.trans (congrArg some (by kernel_rfl))
  t3 := Try.underlying3
  a3 := Try.isAgg3
  z3 := Try.sizeOf3
  v3 := Try.zeroValue3
  t5 := Try.underlying5
  a5 := Try.isAgg5
  z5 := Try.sizeOf5
  v5 := Try.zeroValue5
  t37 := Try.underlying22
  a37 := Try.isAgg22
  z37 := Try.sizeOf22
  v37 := Try.zeroValue22 }
/-- the place of the first lead byte; how many bytes there are, if there is none -/
def nx (l : List Nat) : Nat := l.findIdx (· == 167)
theorem nx_le (l : List Nat) : nx l ≤ l.length := List.findIdx_le_length
def ixv (l : List Nat) : Int := if nx l < l.length then ((nx l : Nat) : Int) else -1
theorem ix_is {l : List Nat} (hb : Byt l) : Lib.indexByte (Lib.bytesOf (l.map fun x => ((x : Nat) : Int))) (167 : Int).toNat.toUInt8 = ixv l := by
  induction l with
  | nil => rfl
  | cons x r ih =>
    have ih2 := ih fun y hy => hb y (List.mem_cons_of_mem _ hy)
    have hx := hb x List.mem_cons_self
    have hrl := nx_le r
    rw [show Lib.bytesOf ((x :: r).map fun x => ((x : Nat) : Int)) = x.toUInt8 :: Lib.bytesOf (r.map fun x => ((x : Nat) : Int)) by simp [Lib.bytesOf], Lib.indexByte, ih2]
    unfold ixv at *
    have hc : nx (x :: r) = if x = 167 then 0 else nx r + 1 := by
      unfold nx
      rw [List.findIdx_cons]
      by_cases h : x = 167
      · subst h; rfl
      · have : (x == 167) = false := by rw [beq_eq_false_iff_ne]; exact h
        rw [this, if_neg h]; rfl
    rw [hc]
    by_cases h : x = 167
    · subst h; simp
    · have hne : (x.toUInt8 == (167 : Int).toNat.toUInt8) = false := by
        rw [beq_eq_false_iff_ne]
        intro e
        have := congrArg UInt8.toNat e
        simp at this
        omega
      rw [hne, if_neg h]
      simp only [List.length_cons]
      generalize nx r = m at *
      by_cases h2 : m < r.length
      · have : (((m : Nat) : Int) == -1) = false := by rw [beq_eq_false_iff_ne]; omega
        have h3 : m + 1 < r.length + 1 := by omega
        simp [h2, this]
      · have h3 : ¬ m + 1 < r.length + 1 := by omega
        simp [h2]
theorem index_is (b off n c : Nat) (l : List Nat) (w : World) (hn : n = l.length) (hb : Byt l) (hr : Row w b off l) :
    Calls Try.prog 29 #[.slice (some ⟨b, off, none⟩) n c, .int .u8 167] w fun e w' => e = .returned (.int .i64 (ixv l)) ∧ w' = w := by
  subst hn
  have := Any.bytes_IndexByte ixLays b off l.length c (l.map fun x => ((x : Nat) : Int)) 167 w (by simp) (fun i hi => by
    rw [hr i hi, List.getD_eq_getElem?_getD, List.getD_eq_getElem?_getD, List.getElem?_map, List.getElem?_eq_getElem hi]; rfl)
  rw [ix_is hb] at this
  exact this
/-- the place from which one looks -/
def frm (n : Nat) (z : Int) : Nat := min z.toNat n
def nxt (l : List Nat) (z : Int) : Nat := frm l.length z + nx (l.drop (frm l.length z))
set_option maxRecDepth 100000 in
set_option maxHeartbeats 400000 in
theorem next_row (b off c : Nat) (l : List Nat) (z : Int) (w : World) (hb : Byt l) (hr : Row w b off l) (hlc : l.length ≤ c) (hcm : c ≤ maxLen) :
    Calls Try.prog 25 #[.slice (some ⟨b, off, none⟩) l.length c, .int .i64 z] w fun e w' => e = .returned (.int .i64 ((nxt l z : Nat) : Int)) ∧ w' = w := by
  unfold maxLen at hcm
  obtain ⟨f, hf⟩ : ∃ f, f = frm l.length z := ⟨_, rfl⟩
  have hfl : f ≤ l.length := by rw [hf]; unfold frm; omega
  have e1 : min (max z 0) ((l.length : Nat) : Int) = (f : Int) := by rw [hf]; unfold frm; omega
  have hdl : (l.drop f).length = l.length - f := List.length_drop
  have HC : Hid (∀ o' : Nat, (f < l.length → o' = off + f) → Calls Try.prog 29 #[.slice (some ⟨b, o', none⟩) (l.length - f) (c - f), .int .u8 167] w fun e w' => e = .returned (.int .i64 (ixv (l.drop f))) ∧ w' = w) := by
    intro o' ho
    refine index_is b o' _ _ (l.drop f) w hdl.symm (byt_drop hb f) fun k hk => ?_
    rw [hdl] at hk
    rw [ho (by omega), Nat.add_assoc, hr (f + k) (by omega), List.getD_eq_getElem?_getD, List.getD_eq_getElem?_getD, List.getElem?_drop]
  have HN : Hid (nxt l z = f + nx (l.drop f)) := by
    show nxt l z = _
    unfold nxt; rw [hf]
  have hnx := nx_le (l.drop f)
  rw [hdl] at hnx
  have HX : Hid (ixv (l.drop f) = if nx (l.drop f) < l.length - f then ((nx (l.drop f) : Nat) : Int) else -1) := by
    show ixv (l.drop f) = _
    unfold ixv; rw [hdl]
  rw [HN.out]
  generalize nx (l.drop f) = q at *
  clear hf hr hb hdl
  by_cases hcf : c = f
  · have hlf : l.length = f := by omega
    have hq0 : q = 0 := by omega
    have HV : Hid (ixv (l.drop f) = -1) := by
      show ixv (l.drop f) = -1
      rw [HX.out, if_neg (by omega)]
    have HC2 := hd (HC.out off (by omega))
    rw [HV.out, hlf, hcf, Nat.sub_self] at HC2
    rw [hlf] at e1
    rw [hlf, hq0]
    subst hcf
    clear HX HV HN HC hlf hlc hnx hq0 hfl
    go_enter Try.func25, Try.ntmps25
    go_wp2_with fail
    refine Calls.mono HC2.out ?_
    rintro e w' ⟨rfl, rfl⟩
    clear HC2
    go_wp2_with fail
    go_ret
    exact ⟨rfl, rfl⟩
  · have HC2 := hd (HC.out (off + f) (fun _ => rfl))
    by_cases hq : q < l.length - f
    · have HV : Hid (ixv (l.drop f) = (q : Int)) := by
        show ixv (l.drop f) = (q : Int)
        rw [HX.out, if_pos hq]
      rw [HV.out] at HC2
      clear HX HV HN HC
      go_enter Try.func25, Try.ntmps25
      go_wp2_with fail
      refine Calls.mono HC2.out ?_
      rintro e w' ⟨rfl, rfl⟩
      clear HC2
      go_wp2_with fail
      go_ret
      exact ⟨rfl, rfl⟩
    · have HV : Hid (ixv (l.drop f) = -1) := by
        show ixv (l.drop f) = -1
        rw [HX.out, if_neg hq]
      rw [HV.out] at HC2
      have hfq : f + q = l.length := by omega
      rw [hfq]
      clear HX HV HN HC
      go_enter Try.func25, Try.ntmps25
      go_wp2_with fail
      refine Calls.mono HC2.out ?_
      rintro e w' ⟨rfl, rfl⟩
      clear HC2
      go_wp2_with fail
      go_ret
      exact ⟨rfl, rfl⟩
end Vt
end Go.Proofs.Ytabfgoojhangnaa
