/-
  THE WALK OF TopFolded.
-/
import Derived.Test.YtfaoemmkcmijfabFd5
namespace Go.Proofs.Ytfaoemmkcmijfab
open Go.RowKit Go.Maps Go.Sort
namespace Fd
open Vt
attribute [local go_sem ↓] append_hid
structure Rw4 where
  k : Int
  y : Int
  v : Int
  n : Int
def wcl (x : Rw4) : List Value := [.int .i64 x.k, .int .i64 x.y, .int .i64 x.v, .int .i64 x.n]
def Rw4.Ok (x : Rw4) : Prop := (Lit.int .i64 x.k).wf = true ∧ (Lit.int .i64 x.y).wf = true ∧ (Lit.int .i64 x.v).wf = true ∧ (Lit.int .i64 x.n).wf = true
/-- a slice of raw records that came in -/
def IsRw (w : World) (v : Value) (l : List Rw4) : Prop :=
  (∀ x ∈ l, x.Ok) ∧ ((l = [] ∧ ∃ a c, v = .slice a 0 c) ∨ ∃ b off c, v = .slice (some ⟨b, off, none⟩) l.length c ∧ l.length ≤ c ∧ c ≤ maxLen ∧ b < w.heap.size ∧ ∀ i x, l[i]? = some x → ∀ j u, (wcl x)[j]? = some u → w.cell? ⟨b, off + i * 4 + j, none⟩ = some u)
theorem IsRw.shape {w : World} {v : Value} {l : List Rw4} (h : IsRw w v l) : ∃ a c, v = .slice a l.length c := by
  rcases h.2 with ⟨rfl, a, c, h⟩ | ⟨b, off, c, h, _⟩
  · exact ⟨a, c, h⟩
  · exact ⟨_, c, h⟩
theorem IsRw.below {w w' : World} {v : Value} {rs : List Rw4} (h : IsRw w v rs) (hb : Below w.heap.size w w') : IsRw w' v rs := by
  refine ⟨h.1, ?_⟩
  rcases h.2 with h | ⟨b, off, c, h1, h2, h3, h4, h5⟩
  · exact .inl h
  · exact .inr ⟨b, off, c, h1, h2, h3, Nat.lt_of_lt_of_le h4 hb.size, fun i r hr j u hu => (World.cell?_of_block (hb.block b h4)).trans (h5 i r hr j u hu)⟩
theorem wrapP {p : Nat} (h : p < 40) : IntKind.u64.wrap (IntKind.i64.wrap (1 + (p : Int))) = ((p + 1 : Nat) : Int) := by
  have key : ∀ q : Fin 40, IntKind.u64.wrap (IntKind.i64.wrap (1 + ((q.1 : Nat) : Int))) = ((q.1 + 1 : Nat) : Int) := by decide
  exact key ⟨p, h⟩
/-- records as the theorem makes them -/
def Made (ms : List Rec) : Prop := ∀ r ∈ ms, r.lsn < 18446744073709551616 ∧ rf (ofR r) = 0
theorem made_ok {ms : List Rec} (h : Made ms) : RcOk ms := fun r hr => by
  obtain ⟨h1, h2⟩ := h r hr
  refine ⟨h1, ?_⟩
  have hk := kind_ok h2
  unfold rf at h2
  rw [if_pos (show (ofR r).kind = 1 ∨ (ofR r).kind = 2 from hk)] at h2
  have := (rfR_ok h2).2.2.1.2
  have h3 : r.key.size ≤ 64 := this
  unfold maxLen; omega
theorem made_snoc {ms : List Rec} {r : Rec} (h : Made ms) (h1 : r.lsn < 18446744073709551616) (h2 : rf (ofR r) = 0) : Made (ms ++ [r]) := fun x hx => by
  rcases List.mem_append.1 hx with hx | hx
  · exact h x hx
  · rw [List.mem_singleton.1 hx]; exact ⟨h1, h2⟩
theorem rec_push {w wr w2 : World} {va : Value} {ms : List Rec} {k n : Nat} {r : Rec} (hJ : JR TR 4 wr w.heap.size va (ms.map rcl)) (hB : Below w.heap.size w wr) (hms : ms.length = k) (hmd : Made ms) (hk : k ≤ 100) (hr : MayR n r) (hb2 : Below wr.drew.heap.size wr.drew w2) :
    ∃ g5 c5 w5, (apO #[24, 24] 24 #[va, .slice (some ⟨w2.heap.size, 0, none⟩) 1 1]).run Try.prog (w2.alloc (.cells #[.int .u64 (r.lsn : Int), .int .i64 r.kind, .string r.key, .string r.val] TR)) = .ok (.slice (some ⟨g5, 0, none⟩) (k + 1) c5) w5 ∧
      (JR TR 4 w5 w.heap.size (.slice (some ⟨g5, 0, none⟩) (k + 1) c5) ((ms ++ [r]).map rcl) ∧ (ms ++ [r]).length = k + 1 ∧ Made (ms ++ [r]) ∧ Below w.heap.size w w5) := by
  obtain ⟨hr1, hr2, hr3, hr4⟩ := hr
  have hb2' : Below wr.heap.size wr w2 := ⟨hb2.os, hb2.tape, hb2.output, hb2.size, hb2.block⟩
  obtain ⟨g5, c5, w5, hr5, hJ5, hb5, _⟩ := push_is (hJ.keepAll hb2') (Nat.le_trans hB.size hb2'.size) r rfl (by rw [List.length_map, hms]; omega)
  rw [List.length_map, hms] at hr5 hJ5
  exact ⟨g5, c5, w5, hr5, by rw [List.map_append]; exact hJ5, by rw [List.length_append, hms]; rfl, made_snoc hmd hr2.1 hr3, bel_tr hB (bel_tr (bel_le hb2' hB.size) hb5)⟩
def r1 : Rec := ⟨2, 1, ⟨#[107]⟩, ⟨#[118]⟩⟩
def r2 : Rec := ⟨1, 2, ⟨#[107]⟩, ⟨#[]⟩⟩
theorem r1_may : rf (ofR r1) = 0 := put_rf (by decide) ⟨(by decide : 1 ≤ 1), (by decide : 1 ≤ 64)⟩ (by decide : 1 ≤ 2048)
theorem r2_may : rf (ofR r2) = 0 := del_rf (by decide) ⟨(by decide : 1 ≤ 1), (by decide : 1 ≤ 64)⟩
theorem cnt_first : Cnt [r1, r2] [r1] := by
  refine ⟨fun e he => ?_, fun e he => ?_, fun e he x hx _ => ?_, fun x hx _ => ⟨r1, List.mem_cons_self, ?_⟩⟩
  · rw [List.mem_singleton.1 he]; exact List.mem_cons_self
  · rw [List.mem_singleton.1 he]; exact r1_may
  · rw [List.mem_singleton.1 he]
    rcases List.mem_cons.1 hx with rfl | hx
    · rw [cp_self]; omega
    · rw [List.mem_singleton.1 hx]
      rcases cp_ways r2 r1 with ⟨q, _⟩ | ⟨q, _⟩ | ⟨_, q, _⟩ | ⟨_, _, q⟩
      · exact absurd r2_may q
      · exact absurd r2_may q
      · exact absurd r1_may q
      · rcases q with ⟨_, q⟩ | ⟨q, _⟩ | ⟨q, _⟩
        · omega
        · exact absurd q (by decide)
        · exact absurd q (by decide)
  · rcases List.mem_cons.1 hx with rfl | hx
    · rfl
    · rw [List.mem_singleton.1 hx]; rfl
theorem w64_first : W64 [r1, r2] := fun r hr => by
  rcases List.mem_cons.1 hr with rfl | hr
  · decide
  · rw [List.mem_singleton.1 hr]; decide
theorem first_es {es : List Rec} (h : Cnt [r1, r2] es) (hs : Srt es) : es = [r1] := h.same cnt_first w64_first (fun _ => Iff.rfl) hs (List.pairwise_singleton _ _)
theorem lit2 (wr : World) : IsR (wr.alloc (.cells #[.int .u64 2, .int .i64 1, .string ⟨#[107]⟩, .string ⟨#[118]⟩, .int .u64 1, .int .i64 2, .string ⟨#[107]⟩, .string ⟨#[]⟩] TR)) (.slice (some ⟨wr.heap.size, 0, none⟩) 2 2) [r1, r2] := by
  have hB : Blk (wr.alloc (.cells #[.int .u64 2, .int .i64 1, .string ⟨#[107]⟩, .string ⟨#[118]⟩, .int .u64 1, .int .i64 2, .string ⟨#[107]⟩, .string ⟨#[]⟩] TR)) wr.heap.size TR [.int .u64 2, .int .i64 1, .string ⟨#[107]⟩, .string ⟨#[118]⟩, .int .u64 1, .int .i64 2, .string ⟨#[107]⟩, .string ⟨#[]⟩] := Blk.new wr TR _
  refine ⟨fun r hr => ⟨w64_first r hr, ?_⟩, .inr ⟨wr.heap.size, 0, 2, rfl, Nat.le_refl _, by decide, by simp, fun i r hi j u hu => ?_⟩⟩
  · rcases List.mem_cons.1 hr with rfl | hr
    · decide
    · rw [List.mem_singleton.1 hr]; decide
  · match i, hi with
    | 0, hi =>
      obtain rfl := Option.some.inj hi
      match j, hu with
      | 0, hu => obtain rfl := Option.some.inj hu; exact hB.cell 0 _ rfl
      | 1, hu => obtain rfl := Option.some.inj hu; exact hB.cell 1 _ rfl
      | 2, hu => obtain rfl := Option.some.inj hu; exact hB.cell 2 _ rfl
      | 3, hu => obtain rfl := Option.some.inj hu; exact hB.cell 3 _ rfl
    | 1, hi =>
      obtain rfl := Option.some.inj hi
      match j, hu with
      | 0, hu => obtain rfl := Option.some.inj hu; exact hB.cell 4 _ rfl
      | 1, hu => obtain rfl := Option.some.inj hu; exact hB.cell 5 _ rfl
      | 2, hu => obtain rfl := Option.some.inj hu; exact hB.cell 6 _ rfl
      | 3, hu => obtain rfl := Option.some.inj hu; exact hB.cell 7 _ rfl
theorem sl_less {x y : Rec} (h : SL (kb y) (kb x)) : Op.bytesLess y.key.toList x.key.toList = true := by
  rw [bytesLess_eq, ByteArray.toList_eq, ByteArray.toList_eq]
  refine decide_eq_true ?_
  rcases Classical.em (y.key.data.toList < x.key.data.toList) with q | q
  · exact q
  · exact absurd (List.le_antisymm h.1 (List.not_lt.1 q)) h.2
theorem pair_neq (k v : ByteArray) (w : World) : (binOp .neq TPr (.agg #[.string k, .string v]) (.agg #[.string k, .string v])).run Try.prog w = .ok (.bool false) w := by
  have h : (Op.equalIn 10000 TPr (.agg #[.string k, .string v]) (.agg #[.string k, .string v])).run Try.prog w = .ok true w := by simp [go_sem, Op.eqFields]
  rw [run_neq_struct, h]; rfl
/-- a slice of pairs that can be read -/
def IsQ (w : World) (v : Value) (rs : List Rec) : Prop :=
  (rs = [] ∧ ∃ a c, v = .slice a 0 c) ∨ ∃ b c, v = .slice (some ⟨b, 0, none⟩) rs.length c ∧ rs.length ≤ c ∧ c ≤ maxLen ∧ b < w.heap.size ∧ ∀ i r, rs[i]? = some r → ∀ j u, (pcl r)[j]? = some u → w.cell? ⟨b, i * 2 + j, none⟩ = some u
theorem isQ_of {w : World} {base : Nat} {v : Value} {rs : List Rec} (h : JR TPr 2 w base v (rs.map pcl)) : IsQ w v rs := by
  by_cases h0 : rs = []
  · subst h0
    obtain ⟨a, c, hv, _⟩ := h.shape
    exact .inl ⟨rfl, a, c, hv⟩
  · obtain ⟨g, c, hv, hc, hm⟩ := h.nn (by simpa using h0)
    rw [List.length_map] at hv hc
    subst hv
    exact .inr ⟨g, c, rfl, hc, hm, h.blk_lt g rfl, fun i r hi j u hu => h.at i (pcl r) j u (by rw [List.getElem?_map, hi]; rfl) hu⟩
theorem IsQ.shape {w : World} {v : Value} {rs : List Rec} (h : IsQ w v rs) : ∃ a c, v = .slice a rs.length c := by
  rcases h with ⟨rfl, a, c, h⟩ | ⟨b, c, h, _⟩
  · exact ⟨a, c, h⟩
  · exact ⟨_, c, h⟩
theorem IsQ.below {w w' : World} {v : Value} {rs : List Rec} (h : IsQ w v rs) (hb : Below w.heap.size w w') : IsQ w' v rs := by
  rcases h with h | ⟨b, c, h1, h2, h3, h4, h5⟩
  · exact .inl h
  · exact .inr ⟨b, c, h1, h2, h3, Nat.lt_of_lt_of_le h4 hb.size, fun i r hr j u hu => (World.cell?_of_block (hb.block b h4)).trans (h5 i r hr j u hu)⟩
set_option maxRecDepth 100000 in
set_option maxHeartbeats 2000000 in
theorem folded_is (v1 v2 : Value) (l : List Rw4) (zs : List Int) (w : World) (h1 : IsRw w v1 l) (h2 : IsI w v2 zs) (hl : l.length + zs.length ≤ 1048576) :
    Calls Try.prog 3 #[v1, v2] w fun e w' => e = .returned (.bool true) ∧ Below w.heap.size w w' := by
  have HL := hd h1; have HZ := hd h2
  obtain ⟨a1, c1, rfl⟩ := h1.shape
  obtain ⟨a2, c2, rfl⟩ := h2.shape
  clear h1 h2
  go_enter Try.func3, Try.ntmps3
  go_wp2_with fail
  go_loopw [5, 6] (fun va i wr => ∃ (k : Nat) (ms : List Rec), k ≤ l.length ∧ k ≤ 100 ∧ i = .int .i64 (k : Int) ∧ JR TR 4 wr w.heap.size va (ms.map rcl) ∧ ms.length = k ∧ Made ms ∧ Below w.heap.size w wr) (fun _ i _ => 100 - (intOf i).toNat)
  case atStart => exact ⟨0, [], by omega, by omega, rfl, jr_nil _ _, rfl, (fun r hr => by cases hr), Below.refl _ _⟩
  case round =>
    obtain ⟨k, ms, hk, hk2, rfl, hJ, hms, hmd, hB⟩ := hrel
    have HJ := hd hJ; have HB := hd hB; have HMD := hd hmd; have HMS := hd hms
    clear hJ hB hmd hms
    by_cases hgo : k < l.length ∧ k < 100
    · obtain ⟨hlt, h100⟩ := hgo
      obtain ⟨x, hx⟩ : ∃ x, l[k]? = some x := ⟨_, List.getElem?_eq_getElem hlt⟩
      obtain ⟨hw1, hw2, hw3, hw4⟩ := HL.out.1 x (List.mem_of_getElem? hx)
      rcases (HL.out.below HB.out).2 with ⟨rfl, _⟩ | ⟨b, off, c, he, hlc, hcm, hbl, hop⟩
      · simp at hlt
      injection he with he1 he2 he3
      subst he1 he3
      have d0 : wr.cell? ⟨b, off + k * 4, none⟩ = some (.int .i64 x.k) := hop k x hx 0 _ rfl
      have d1 := hop k x hx 1 _ rfl
      have d2 := hop k x hx 2 _ rfl
      have d3 := hop k x hx 3 _ rfl
      have HP : Hid (∀ W, Calls Try.prog 5 #[.int .i64 x.n, .int .i64 40] W fun e w' => ∃ m : Nat, m < 40 ∧ e = .returned (.int .i64 (m : Int)) ∧ w' = W) := fun W => tpick_is x.n 40 W (by omega) (by omega) hw4
      have HR : Hid (∀ (n : Nat) (W : World), n ≠ 0 → n < 18446744073709551616 → Calls Try.prog 4 #[.agg #[.int .i64 x.k, .int .i64 x.y, .int .i64 x.v, .int .i64 x.n], .int .u64 (n : Int)] W fun e w' => ∃ r : Rec, MayR n r ∧ e = .returned (.agg #[.int .u64 (n : Int), .int .i64 r.kind, .string r.key, .string r.val]) ∧ Below W.heap.size W w') := fun n W h0 h1 => recordOf_is x.k x.y x.v x.n n W hw1 hw2 hw3 h0 h1
      clear hop hw1 hw2 hw3 hw4 hx
      go_wp2_with fail
      go_region_with (first
        | (go_at_call 5; refine Calls.mono (HP.out _) ?_; rintro e w' ⟨p, hp, rfl, rfl⟩)
        | (go_at_call 4; rw [wrapP hp]; refine Calls.mono (HR.out (p + 1) wr.drew (by omega) (by omega)) ?_; rintro e w2 ⟨r, hmay, rfl, hb2⟩; rw [← hmay.1]; obtain ⟨g5, c5, w5, hr5, hREL⟩ := rec_push HJ.out HB.out HMS.out HMD.out (by omega) hmay hb2; have HREL := hd hREL; clear hREL hmay hb2))
      all_goals
        --SLOW
        go_wp2_with fail
        exact ⟨⟨k + 1, _, by omega, by omega, by go_num, HREL.out⟩, by simp [intOf]; omega⟩
    · have HE : Hid (IsR wr u5 ms ∧ ms.length ≤ 100) := ⟨isR_of HJ.out (made_ok HMD.out), by rw [HMS.out]; exact hk2⟩
      obtain ⟨am, cm, hum⟩ := HE.out.1.shape
      subst hum
      have HKM := hd HMS.out
      by_cases hlt : k < l.length
      · have h100 : ¬ k < 100 := fun q => hgo ⟨hlt, q⟩
        clear hgo
        go_wp2_with fail
        obtain ⟨w1, hw1⟩ : ∃ w1, w1 = wr.alloc (.cells #[.int .u64 2, .int .i64 1, .string ⟨#[107]⟩, .string ⟨#[118]⟩, .int .u64 1, .int .i64 2, .string ⟨#[107]⟩, .string ⟨#[]⟩] TR) := ⟨_, rfl⟩
        have hb1 : Below wr.heap.size wr w1 := by rw [hw1]; exact (Below.refl _ wr).alloc (Nat.le_refl _) _
        have HL1 := hd (live_is w1 (.slice (some ⟨wr.heap.size, 0, none⟩) 2 2) [r1, r2] (by rw [hw1]; exact lit2 wr) (by decide))
        rw [← hw1]
        have HI1 := hd (HE.out.1.below hb1)
        have HB1 := hd (bel_tr HB.out (bel_le hb1 HB.out.size))
        clear hw1 hb1 HJ
        refine Calls.mono HL1.out ?_
        rintro e w2 ⟨uf, ef, rfl, hCf, hSf, _, hJf, hb2⟩
        obtain rfl := first_es hCf hSf
        obtain ⟨gf, cf, hvf, hlf, hmf⟩ := hJf.nn (by decide)
        subst hvf
        have k0 : w2.cell? ⟨gf, 0, none⟩ = some (.string ⟨#[107]⟩) := hJf.at 0 (pcl r1) 0 _ rfl rfl
        have k1 : w2.cell? ⟨gf, 1, none⟩ = some (.string ⟨#[118]⟩) := hJf.at 0 (pcl r1) 1 _ rfl rfl
        have HI2 := hd (HI1.out.below hb2)
        have HB2 := hd (bel_tr HB1.out (bel_le hb2 HB1.out.size))
        have HT2 := hd (turned_is (.slice am ms.length cm) (.slice a2 zs.length c2) ms zs w2 HI2.out (HZ.out.below HB2.out rfl) (by have := HE.out.2; omega) (by omega))
        clear hCf hSf hJf hb2 HL1 HI1 HB1
        simp only [show (List.map pcl (liv [r1])).length = 1 from rfl] at hlf ⊢
        go_wp2_with fail
        refine Calls.mono HT2.out ?_
        rintro e w3 ⟨un, out, rfl, hJn, hmem, hlen, hb3⟩
        have HOKo : Hid (RcOk out) := fun r hr => made_ok HMD.out r ((hmem r).1 hr)
        have HI3 := hd (HI2.out.below hb3)
        have HB3 := hd (bel_tr HB2.out (bel_le hb3 HB2.out.size))
        have HN3 := hd (isR_of hJn HOKo.out)
        have HMEM := hd hmem
        obtain ⟨an, cn, rfl⟩ := HN3.out.shape
        have HFa := hd (fold_is w3 (.slice am ms.length cm) ms HI3.out (by have := HE.out.2; omega))
        have hol : out.length ≤ 1099511627776 := by have := HE.out.2; omega
        clear hJn hmem hlen hb3 HT2 HI2 HB2 k0 k1
        go_wp2_with fail
        refine Calls.mono HFa.out ?_
        rintro e w4 ⟨ua, es, rfl, hCa, hSa, hla, hJa, hb4⟩
        have hesl : es.length ≤ 100 := Nat.le_trans hla HE.out.2
        have HW64 : Hid (W64 ms) := fun r hr => (HMD.out r hr).1
        have HOKe : Hid (RcOk es) := hCa.ok (made_ok HMD.out)
        have HA4 := hd (isR_of hJa HOKe.out)
        obtain ⟨aa, ca, rfl⟩ := HA4.out.shape
        have HI4 := hd (HI3.out.below hb4)
        have HB4 := hd (bel_tr HB3.out (bel_le hb4 HB3.out.size))
        have HFb := hd (fold_is w4 (.slice an out.length cn) out (HN3.out.below hb4) hol)
        have HCa := hd hCa; have HSa := hd hSa
        clear hCa hSa hJa hb4 HFa HI3 HB3 hla
        go_wp2_with fail
        refine Calls.mono HFb.out ?_
        rintro e w5 ⟨ub, eb, rfl, hCb, hSb, _, hJb, hb5⟩
        obtain rfl := HCa.out.same hCb HW64.out (fun x => (HMEM.out x).symm) HSa.out hSb
        have HA5 := hd (HA4.out.below hb5)
        have HB5q := hd (isR_of hJb HOKe.out)
        obtain ⟨ab, cb_, rfl⟩ := HB5q.out.shape
        have HI5 := hd (HI4.out.below hb5)
        have HB5 := hd (bel_tr HB4.out (bel_le hb5 HB4.out.size))
        have HLc := hd (live_is w5 (.slice am ms.length cm) ms HI5.out (by have := HE.out.2; omega))
        clear hCb hSb hJb hb5 HFb HI4 HB4 HA4 hol HN3
        go_wp2_with fail
        refine Calls.mono HLc.out ?_
        rintro e w6 ⟨uc, ec, rfl, hCc, hSc, _, hJc, hb6⟩
        obtain rfl := HCa.out.same hCc HW64.out (fun _ => Iff.rfl) HSa.out hSc
        have HA6 := hd (HA5.out.below hb6)
        have HB6q := hd (HB5q.out.below hb6)
        have HC6 := hd (isQ_of hJc)
        obtain ⟨ac, cc, rfl⟩ := HC6.out.shape
        have HI6 := hd (HI5.out.below hb6)
        have HB6 := hd (bel_tr HB5.out (bel_le hb6 HB5.out.size))
        have HLd := hd (live_is w6 (.slice aa es.length ca) es HA6.out (by omega))
        clear hCc hSc hJc hb6 HLc HI5 HB5 HA5 HB5q
        go_wp2_with fail
        refine Calls.mono HLd.out ?_
        rintro e w7 ⟨ud, ed, rfl, hCd, hSd, _, hJd, hb7⟩
        obtain rfl := (HCa.out.again HSa.out.dif).same hCd (fun r hr => (HOKe.out r hr).1) (fun _ => Iff.rfl) HSa.out hSd
        have HA7 := hd (HA6.out.below hb7)
        have HB7q := hd (HB6q.out.below hb7)
        have HC7 := hd (HC6.out.below hb7)
        have HD7 := hd (isQ_of hJd)
        obtain ⟨ad, cd, rfl⟩ := HD7.out.shape
        have HI7 := hd (HI6.out.below hb7)
        have HB7 := hd (bel_tr HB6.out (bel_le hb7 HB6.out.size))
        clear hCd hSd hJd hb7 HLd HI6 HB6 HA6 HB6q HC6
        go_wp2_with fail
        go_loopw [13] (fun i wq => ∃ j : Nat, j ≤ es.length ∧ i = .int .i64 (j : Int) ∧ ∃ q, wq = w7.drewN q) (fun i _ => es.length - (intOf i).toNat)
        case atStart => exact ⟨0, by omega, rfl, 0, rfl⟩
        case round =>
          obtain ⟨j, hj, rfl, hwr⟩ := hrel
          have HWR := hd hwr
          clear hwr
          by_cases hjl : j < es.length
          · obtain ⟨x, hx⟩ : ∃ x, es[j]? = some x := ⟨_, List.getElem?_eq_getElem hjl⟩
            rcases HA7.out.2 with ⟨rfl, _⟩ | ⟨b1, off1, cx1, he1, hlc1, hcm1, hbl1, hop1⟩
            · simp at hjl
            rcases HB7q.out.2 with ⟨rfl, _⟩ | ⟨b2, off2, cx2, he2, hlc2, hcm2, hbl2, hop2⟩
            · simp at hjl
            injection he1 with he11 _ he13
            injection he2 with he21 _ he23
            subst he11 he13 he21 he23
            have p0 : wr.cell? ⟨b1, off1 + j * 4, none⟩ = some (.int .u64 (x.lsn : Int)) := by obtain ⟨q, rfl⟩ := HWR.out; exact hop1 j x hx 0 _ rfl
            have p1 : wr.cell? ⟨b1, off1 + j * 4 + 1, none⟩ = some (.int .i64 x.kind) := by obtain ⟨q, rfl⟩ := HWR.out; exact hop1 j x hx 1 _ rfl
            have p2 : wr.cell? ⟨b1, off1 + j * 4 + 2, none⟩ = some (.string x.key) := by obtain ⟨q, rfl⟩ := HWR.out; exact hop1 j x hx 2 _ rfl
            have p3 : wr.cell? ⟨b1, off1 + j * 4 + 3, none⟩ = some (.string x.val) := by obtain ⟨q, rfl⟩ := HWR.out; exact hop1 j x hx 3 _ rfl
            have q0 : wr.cell? ⟨b2, off2 + j * 4, none⟩ = some (.int .u64 (x.lsn : Int)) := by obtain ⟨q, rfl⟩ := HWR.out; exact hop2 j x hx 0 _ rfl
            have q1 : wr.cell? ⟨b2, off2 + j * 4 + 1, none⟩ = some (.int .i64 x.kind) := by obtain ⟨q, rfl⟩ := HWR.out; exact hop2 j x hx 1 _ rfl
            have q2 : wr.cell? ⟨b2, off2 + j * 4 + 2, none⟩ = some (.string x.key) := by obtain ⟨q, rfl⟩ := HWR.out; exact hop2 j x hx 2 _ rfl
            have q3 : wr.cell? ⟨b2, off2 + j * 4 + 3, none⟩ = some (.string x.val) := by obtain ⟨q, rfl⟩ := HWR.out; exact hop2 j x hx 3 _ rfl
            obtain ⟨bq, hbq, hbi⟩ := rec_neq x x
            obtain rfl := hbi.2 rfl
            simp only [rv] at hbq
            clear hbi hop2
            cases j with
            | zero =>
              clear hop1
              simp only [Nat.zero_mul, Nat.add_zero] at p0 p1 p2 p3 q0 q1 q2 q3
              go_wp2_with fail
              go_quiet (fail)
              go_wp2_with fail
              go_roundw
              case rel => refine ⟨1, by omega, by go_num, ?_⟩; obtain ⟨q, hq⟩ := HWR.out; subst hq; simp only [World.drewN_drewN]; exact ⟨_, rfl⟩
              case measure => simp [intOf]; omega
            | succ j =>
              obtain ⟨y, hy⟩ : ∃ y, es[j]? = some y := ⟨_, List.getElem?_eq_getElem (by omega)⟩
              have y2 : wr.cell? ⟨b1, off1 + j * 4 + 2, none⟩ = some (.string y.key) := by obtain ⟨q, rfl⟩ := HWR.out; exact hop1 j y hy 2 _ rfl
              have hSL : SL (kb y) (kb x) := by
                have := List.pairwise_iff_getElem.1 HSa.out j (j + 1) (by omega) hjl (by omega)
                rw [← Option.some.inj ((List.getElem?_eq_getElem (by omega)).symm.trans hy), ← Option.some.inj ((List.getElem?_eq_getElem hjl).symm.trans hx)]
                exact this
              have hbl : Op.bytesLess y.key.toList x.key.toList = true := sl_less hSL
              clear hop1 hSL hy hx
              go_wp2_with fail
              go_quiet (fail)
              go_wp2_with fail
              go_roundw
              case rel => refine ⟨j + 2, by omega, by go_num, ?_⟩; obtain ⟨q, hq⟩ := HWR.out; subst hq; simp only [World.drewN_drewN]; exact ⟨_, rfl⟩
              case measure => simp [intOf]; omega
          · obtain rfl : es.length = j := by omega
            have hbx : Below w7.heap.size w7 wr := by obtain ⟨q, rfl⟩ := HWR.out; exact ⟨rfl, rfl, rfl, Nat.le_refl _, fun _ _ => rfl⟩
            have HA8 := hd (HA7.out.below hbx)
            have HC8 := hd (HC7.out.below hbx)
            have HD8 := hd (HD7.out.below hbx)
            have HI8 := hd (HI7.out.below hbx)
            have HB8 := hd (bel_tr HB7.out (bel_le hbx HB7.out.size))
            have HCT : Hid (∀ r ∈ ms, (∃ e ∈ es, e.key = r.key) ∧ ∀ e ∈ es, e.key = r.key → r.lsn < e.lsn ∨ (e.lsn = r.lsn ∧ (e = r ∨ e.kind = 2 ∨ r.kind = 1))) := fun r hr => ⟨HCa.out.all r hr (HMD.out r hr).2, fun e he hk => top_ways (HCa.out.may e he) (HMD.out r hr).2 (HCa.out.top e he r hr hk.symm)⟩
            have hml : ms.length ≤ 100 := HE.out.2
            clear hbx HA7 HB7q HC7 HD7 HI7 HB7 HWR HE
            go_wp2_with fail
            go_loopw [14] (fun i wq => ∃ j : Nat, j ≤ ms.length ∧ i = .int .i64 (j : Int) ∧ IsR wq (.slice aa es.length ca) es ∧ IsQ wq (.slice ac (liv es).length cc) (liv es) ∧ IsQ wq (.slice ad (liv es).length cd) (liv es) ∧ IsR wq (.slice am ms.length cm) ms ∧ Below w.heap.size w wq) (fun i _ => ms.length - (intOf i).toNat)
            case atStart => exact ⟨0, by omega, rfl, HA8.out, HC8.out, HD8.out, HI8.out, HB8.out⟩
            case round =>
              obtain ⟨j, hj, rfl, hA, hC, hD, hI, hB⟩ := hrel
              have HA := hd hA; have HC := hd hC; have HD := hd hD; have HI := hd hI; have HBw := hd hB
              clear hA hC hD hI hB HA8 HC8 HD8 HI8 HB8
              by_cases hjl : j < ms.length
              · obtain ⟨r, hr⟩ : ∃ r, ms[j]? = some r := ⟨_, List.getElem?_eq_getElem hjl⟩
                rcases HI.out.2 with ⟨rfl, _⟩ | ⟨b1, off1, cx1, he1, hlc1, hcm1, hbl1, hop1⟩
                · simp at hjl
                injection he1 with he11 _ he13
                subst he11 he13
                have p0 : wr.cell? ⟨b1, off1 + j * 4, none⟩ = some (.int .u64 (r.lsn : Int)) := hop1 j r hr 0 _ rfl
                have p1 : wr.cell? ⟨b1, off1 + j * 4 + 1, none⟩ = some (.int .i64 r.kind) := hop1 j r hr 1 _ rfl
                have p2 : wr.cell? ⟨b1, off1 + j * 4 + 2, none⟩ = some (.string r.key) := hop1 j r hr 2 _ rfl
                have p3 : wr.cell? ⟨b1, off1 + j * 4 + 3, none⟩ = some (.string r.val) := hop1 j r hr 3 _ rfl
                obtain ⟨hct1, hct2⟩ := HCT.out r (List.mem_of_getElem? hr)
                have HCO := hd (counts_is wr (.slice aa es.length ca) es r HA.out (by omega) hct1 hct2)
                simp only [rv] at HCO
                clear hop1 hct1 hct2 hr
                go_wp2_with fail
                refine Calls.mono HCO.out ?_
                rintro e w9 ⟨rfl, hb9⟩
                have HREL : Hid (IsR w9 (.slice aa es.length ca) es ∧ IsQ w9 (.slice ac (liv es).length cc) (liv es) ∧ IsQ w9 (.slice ad (liv es).length cd) (liv es) ∧ IsR w9 (.slice (some ⟨b1, off1, none⟩) ms.length cm) ms ∧ Below w.heap.size w w9) := ⟨HA.out.below hb9, HC.out.below hb9, HD.out.below hb9, HI.out.below hb9, bel_tr HBw.out (bel_le hb9 HBw.out.size)⟩
                clear hb9 HCO p0 p1 p2 p3
                go_wp2_with fail
                go_roundw
                case rel => exact ⟨j + 1, by omega, by go_num, HREL.out⟩
                case measure => simp [intOf]; omega
              · obtain rfl : ms.length = j := by omega
                clear HA HI HCT
                go_wp2_with fail
                go_loopw [16] (fun i wq => ∃ j : Nat, j ≤ (liv es).length ∧ i = .int .i64 (j : Int) ∧ IsQ wq (.slice ac (liv es).length cc) (liv es) ∧ IsQ wq (.slice ad (liv es).length cd) (liv es) ∧ Below w.heap.size w wq) (fun i _ => (liv es).length - (intOf i).toNat)
                case atStart => exact ⟨0, by omega, rfl, HC.out, HD.out, HBw.out⟩
                case round =>
                  obtain ⟨j, hj, rfl, hC, hD, hB⟩ := hrel
                  have HC2 := hd hC; have HD2 := hd hD; have HBw2 := hd hB
                  clear hC hD hB HC HD HBw
                  have hlv : (liv es).length ≤ 100 := Nat.le_trans (List.length_filter_le _ _) hesl
                  by_cases hjl : j < (liv es).length
                  · obtain ⟨r, hr⟩ : ∃ r, (liv es)[j]? = some r := ⟨_, List.getElem?_eq_getElem hjl⟩
                    rcases HC2.out with ⟨hnil, _⟩ | ⟨b1, cx1, he1, hlc1, hcm1, hbl1, hop1⟩
                    · rw [hnil] at hjl; simp at hjl
                    rcases HD2.out with ⟨hnil, _⟩ | ⟨b2, cx2, he2, hlc2, hcm2, hbl2, hop2⟩
                    · rw [hnil] at hjl; simp at hjl
                    injection he1 with he11 _ he13
                    injection he2 with he21 _ he23
                    subst he11 he13 he21 he23
                    have p0 : wr.cell? ⟨b1, j * 2, none⟩ = some (.string r.key) := hop1 j r hr 0 _ rfl
                    have p1 : wr.cell? ⟨b1, j * 2 + 1, none⟩ = some (.string r.val) := hop1 j r hr 1 _ rfl
                    have q0 : wr.cell? ⟨b2, j * 2, none⟩ = some (.string r.key) := hop2 j r hr 0 _ rfl
                    have q1 : wr.cell? ⟨b2, j * 2 + 1, none⟩ = some (.string r.val) := hop2 j r hr 1 _ rfl
                    have hnq := pair_neq r.key r.val
                    have HREL : Hid (∀ n, IsQ (wr.drewN n) (.slice (some ⟨b1, 0, none⟩) (liv es).length cc) (liv es) ∧ IsQ (wr.drewN n) (.slice (some ⟨b2, 0, none⟩) (liv es).length cd) (liv es) ∧ Below w.heap.size w (wr.drewN n)) := fun n => by
                      have hb : Below wr.heap.size wr (wr.drewN n) := ⟨rfl, rfl, rfl, Nat.le_refl _, fun _ _ => rfl⟩
                      exact ⟨HC2.out.below hb, HD2.out.below hb, bel_tr HBw2.out (bel_le hb HBw2.out.size)⟩
                    clear hop1 hop2 hr
                    go_wp2_with fail
                    go_quiet (fail)
                    go_wp2_with fail
                    go_roundw
                    case rel => exact ⟨j + 1, by omega, by go_num, HREL.out _⟩
                    case measure => simp [intOf]; omega
                  · clear HC2 HD2
                    go_wp2_with fail
                    go_ret
                    exact ⟨rfl, HBw2.out⟩
      · clear hgo
        go_wp2_with fail
        obtain ⟨w1, hw1⟩ : ∃ w1, w1 = wr.alloc (.cells #[.int .u64 2, .int .i64 1, .string ⟨#[107]⟩, .string ⟨#[118]⟩, .int .u64 1, .int .i64 2, .string ⟨#[107]⟩, .string ⟨#[]⟩] TR) := ⟨_, rfl⟩
        have hb1 : Below wr.heap.size wr w1 := by rw [hw1]; exact (Below.refl _ wr).alloc (Nat.le_refl _) _
        have HL1 := hd (live_is w1 (.slice (some ⟨wr.heap.size, 0, none⟩) 2 2) [r1, r2] (by rw [hw1]; exact lit2 wr) (by decide))
        rw [← hw1]
        have HI1 := hd (HE.out.1.below hb1)
        have HB1 := hd (bel_tr HB.out (bel_le hb1 HB.out.size))
        clear hw1 hb1 HJ
        refine Calls.mono HL1.out ?_
        rintro e w2 ⟨uf, ef, rfl, hCf, hSf, _, hJf, hb2⟩
        obtain rfl := first_es hCf hSf
        obtain ⟨gf, cf, hvf, hlf, hmf⟩ := hJf.nn (by decide)
        subst hvf
        have k0 : w2.cell? ⟨gf, 0, none⟩ = some (.string ⟨#[107]⟩) := hJf.at 0 (pcl r1) 0 _ rfl rfl
        have k1 : w2.cell? ⟨gf, 1, none⟩ = some (.string ⟨#[118]⟩) := hJf.at 0 (pcl r1) 1 _ rfl rfl
        have HI2 := hd (HI1.out.below hb2)
        have HB2 := hd (bel_tr HB1.out (bel_le hb2 HB1.out.size))
        have HT2 := hd (turned_is (.slice am ms.length cm) (.slice a2 zs.length c2) ms zs w2 HI2.out (HZ.out.below HB2.out rfl) (by have := HE.out.2; omega) (by omega))
        clear hCf hSf hJf hb2 HL1 HI1 HB1
        simp only [show (List.map pcl (liv [r1])).length = 1 from rfl] at hlf ⊢
        go_wp2_with fail
        refine Calls.mono HT2.out ?_
        rintro e w3 ⟨un, out, rfl, hJn, hmem, hlen, hb3⟩
        have HOKo : Hid (RcOk out) := fun r hr => made_ok HMD.out r ((hmem r).1 hr)
        have HI3 := hd (HI2.out.below hb3)
        have HB3 := hd (bel_tr HB2.out (bel_le hb3 HB2.out.size))
        have HN3 := hd (isR_of hJn HOKo.out)
        have HMEM := hd hmem
        obtain ⟨an, cn, rfl⟩ := HN3.out.shape
        have HFa := hd (fold_is w3 (.slice am ms.length cm) ms HI3.out (by have := HE.out.2; omega))
        have hol : out.length ≤ 1099511627776 := by have := HE.out.2; omega
        clear hJn hmem hlen hb3 HT2 HI2 HB2 k0 k1
        go_wp2_with fail
        refine Calls.mono HFa.out ?_
        rintro e w4 ⟨ua, es, rfl, hCa, hSa, hla, hJa, hb4⟩
        have hesl : es.length ≤ 100 := Nat.le_trans hla HE.out.2
        have HW64 : Hid (W64 ms) := fun r hr => (HMD.out r hr).1
        have HOKe : Hid (RcOk es) := hCa.ok (made_ok HMD.out)
        have HA4 := hd (isR_of hJa HOKe.out)
        obtain ⟨aa, ca, rfl⟩ := HA4.out.shape
        have HI4 := hd (HI3.out.below hb4)
        have HB4 := hd (bel_tr HB3.out (bel_le hb4 HB3.out.size))
        have HFb := hd (fold_is w4 (.slice an out.length cn) out (HN3.out.below hb4) hol)
        have HCa := hd hCa; have HSa := hd hSa
        clear hCa hSa hJa hb4 HFa HI3 HB3 hla
        go_wp2_with fail
        refine Calls.mono HFb.out ?_
        rintro e w5 ⟨ub, eb, rfl, hCb, hSb, _, hJb, hb5⟩
        obtain rfl := HCa.out.same hCb HW64.out (fun x => (HMEM.out x).symm) HSa.out hSb
        have HA5 := hd (HA4.out.below hb5)
        have HB5q := hd (isR_of hJb HOKe.out)
        obtain ⟨ab, cb_, rfl⟩ := HB5q.out.shape
        have HI5 := hd (HI4.out.below hb5)
        have HB5 := hd (bel_tr HB4.out (bel_le hb5 HB4.out.size))
        have HLc := hd (live_is w5 (.slice am ms.length cm) ms HI5.out (by have := HE.out.2; omega))
        clear hCb hSb hJb hb5 HFb HI4 HB4 HA4 hol HN3
        go_wp2_with fail
        refine Calls.mono HLc.out ?_
        rintro e w6 ⟨uc, ec, rfl, hCc, hSc, _, hJc, hb6⟩
        obtain rfl := HCa.out.same hCc HW64.out (fun _ => Iff.rfl) HSa.out hSc
        have HA6 := hd (HA5.out.below hb6)
        have HB6q := hd (HB5q.out.below hb6)
        have HC6 := hd (isQ_of hJc)
        obtain ⟨ac, cc, rfl⟩ := HC6.out.shape
        have HI6 := hd (HI5.out.below hb6)
        have HB6 := hd (bel_tr HB5.out (bel_le hb6 HB5.out.size))
        have HLd := hd (live_is w6 (.slice aa es.length ca) es HA6.out (by omega))
        clear hCc hSc hJc hb6 HLc HI5 HB5 HA5 HB5q
        go_wp2_with fail
        refine Calls.mono HLd.out ?_
        rintro e w7 ⟨ud, ed, rfl, hCd, hSd, _, hJd, hb7⟩
        obtain rfl := (HCa.out.again HSa.out.dif).same hCd (fun r hr => (HOKe.out r hr).1) (fun _ => Iff.rfl) HSa.out hSd
        have HA7 := hd (HA6.out.below hb7)
        have HB7q := hd (HB6q.out.below hb7)
        have HC7 := hd (HC6.out.below hb7)
        have HD7 := hd (isQ_of hJd)
        obtain ⟨ad, cd, rfl⟩ := HD7.out.shape
        have HI7 := hd (HI6.out.below hb7)
        have HB7 := hd (bel_tr HB6.out (bel_le hb7 HB6.out.size))
        clear hCd hSd hJd hb7 HLd HI6 HB6 HA6 HB6q HC6
        go_wp2_with fail
        go_loopw [13] (fun i wq => ∃ j : Nat, j ≤ es.length ∧ i = .int .i64 (j : Int) ∧ ∃ q, wq = w7.drewN q) (fun i _ => es.length - (intOf i).toNat)
        case atStart => exact ⟨0, by omega, rfl, 0, rfl⟩
        case round =>
          obtain ⟨j, hj, rfl, hwr⟩ := hrel
          have HWR := hd hwr
          clear hwr
          by_cases hjl : j < es.length
          · obtain ⟨x, hx⟩ : ∃ x, es[j]? = some x := ⟨_, List.getElem?_eq_getElem hjl⟩
            rcases HA7.out.2 with ⟨rfl, _⟩ | ⟨b1, off1, cx1, he1, hlc1, hcm1, hbl1, hop1⟩
            · simp at hjl
            rcases HB7q.out.2 with ⟨rfl, _⟩ | ⟨b2, off2, cx2, he2, hlc2, hcm2, hbl2, hop2⟩
            · simp at hjl
            injection he1 with he11 _ he13
            injection he2 with he21 _ he23
            subst he11 he13 he21 he23
            have p0 : wr.cell? ⟨b1, off1 + j * 4, none⟩ = some (.int .u64 (x.lsn : Int)) := by obtain ⟨q, rfl⟩ := HWR.out; exact hop1 j x hx 0 _ rfl
            have p1 : wr.cell? ⟨b1, off1 + j * 4 + 1, none⟩ = some (.int .i64 x.kind) := by obtain ⟨q, rfl⟩ := HWR.out; exact hop1 j x hx 1 _ rfl
            have p2 : wr.cell? ⟨b1, off1 + j * 4 + 2, none⟩ = some (.string x.key) := by obtain ⟨q, rfl⟩ := HWR.out; exact hop1 j x hx 2 _ rfl
            have p3 : wr.cell? ⟨b1, off1 + j * 4 + 3, none⟩ = some (.string x.val) := by obtain ⟨q, rfl⟩ := HWR.out; exact hop1 j x hx 3 _ rfl
            have q0 : wr.cell? ⟨b2, off2 + j * 4, none⟩ = some (.int .u64 (x.lsn : Int)) := by obtain ⟨q, rfl⟩ := HWR.out; exact hop2 j x hx 0 _ rfl
            have q1 : wr.cell? ⟨b2, off2 + j * 4 + 1, none⟩ = some (.int .i64 x.kind) := by obtain ⟨q, rfl⟩ := HWR.out; exact hop2 j x hx 1 _ rfl
            have q2 : wr.cell? ⟨b2, off2 + j * 4 + 2, none⟩ = some (.string x.key) := by obtain ⟨q, rfl⟩ := HWR.out; exact hop2 j x hx 2 _ rfl
            have q3 : wr.cell? ⟨b2, off2 + j * 4 + 3, none⟩ = some (.string x.val) := by obtain ⟨q, rfl⟩ := HWR.out; exact hop2 j x hx 3 _ rfl
            obtain ⟨bq, hbq, hbi⟩ := rec_neq x x
            obtain rfl := hbi.2 rfl
            simp only [rv] at hbq
            clear hbi hop2
            cases j with
            | zero =>
              clear hop1
              simp only [Nat.zero_mul, Nat.add_zero] at p0 p1 p2 p3 q0 q1 q2 q3
              go_wp2_with fail
              go_quiet (fail)
              go_wp2_with fail
              go_roundw
              case rel => refine ⟨1, by omega, by go_num, ?_⟩; obtain ⟨q, hq⟩ := HWR.out; subst hq; simp only [World.drewN_drewN]; exact ⟨_, rfl⟩
              case measure => simp [intOf]; omega
            | succ j =>
              obtain ⟨y, hy⟩ : ∃ y, es[j]? = some y := ⟨_, List.getElem?_eq_getElem (by omega)⟩
              have y2 : wr.cell? ⟨b1, off1 + j * 4 + 2, none⟩ = some (.string y.key) := by obtain ⟨q, rfl⟩ := HWR.out; exact hop1 j y hy 2 _ rfl
              have hSL : SL (kb y) (kb x) := by
                have := List.pairwise_iff_getElem.1 HSa.out j (j + 1) (by omega) hjl (by omega)
                rw [← Option.some.inj ((List.getElem?_eq_getElem (by omega)).symm.trans hy), ← Option.some.inj ((List.getElem?_eq_getElem hjl).symm.trans hx)]
                exact this
              have hbl : Op.bytesLess y.key.toList x.key.toList = true := sl_less hSL
              clear hop1 hSL hy hx
              go_wp2_with fail
              go_quiet (fail)
              go_wp2_with fail
              go_roundw
              case rel => refine ⟨j + 2, by omega, by go_num, ?_⟩; obtain ⟨q, hq⟩ := HWR.out; subst hq; simp only [World.drewN_drewN]; exact ⟨_, rfl⟩
              case measure => simp [intOf]; omega
          · obtain rfl : es.length = j := by omega
            have hbx : Below w7.heap.size w7 wr := by obtain ⟨q, rfl⟩ := HWR.out; exact ⟨rfl, rfl, rfl, Nat.le_refl _, fun _ _ => rfl⟩
            have HA8 := hd (HA7.out.below hbx)
            have HC8 := hd (HC7.out.below hbx)
            have HD8 := hd (HD7.out.below hbx)
            have HI8 := hd (HI7.out.below hbx)
            have HB8 := hd (bel_tr HB7.out (bel_le hbx HB7.out.size))
            have HCT : Hid (∀ r ∈ ms, (∃ e ∈ es, e.key = r.key) ∧ ∀ e ∈ es, e.key = r.key → r.lsn < e.lsn ∨ (e.lsn = r.lsn ∧ (e = r ∨ e.kind = 2 ∨ r.kind = 1))) := fun r hr => ⟨HCa.out.all r hr (HMD.out r hr).2, fun e he hk => top_ways (HCa.out.may e he) (HMD.out r hr).2 (HCa.out.top e he r hr hk.symm)⟩
            have hml : ms.length ≤ 100 := HE.out.2
            clear hbx HA7 HB7q HC7 HD7 HI7 HB7 HWR HE
            go_wp2_with fail
            go_loopw [14] (fun i wq => ∃ j : Nat, j ≤ ms.length ∧ i = .int .i64 (j : Int) ∧ IsR wq (.slice aa es.length ca) es ∧ IsQ wq (.slice ac (liv es).length cc) (liv es) ∧ IsQ wq (.slice ad (liv es).length cd) (liv es) ∧ IsR wq (.slice am ms.length cm) ms ∧ Below w.heap.size w wq) (fun i _ => ms.length - (intOf i).toNat)
            case atStart => exact ⟨0, by omega, rfl, HA8.out, HC8.out, HD8.out, HI8.out, HB8.out⟩
            case round =>
              obtain ⟨j, hj, rfl, hA, hC, hD, hI, hB⟩ := hrel
              have HA := hd hA; have HC := hd hC; have HD := hd hD; have HI := hd hI; have HBw := hd hB
              clear hA hC hD hI hB HA8 HC8 HD8 HI8 HB8
              by_cases hjl : j < ms.length
              · obtain ⟨r, hr⟩ : ∃ r, ms[j]? = some r := ⟨_, List.getElem?_eq_getElem hjl⟩
                rcases HI.out.2 with ⟨rfl, _⟩ | ⟨b1, off1, cx1, he1, hlc1, hcm1, hbl1, hop1⟩
                · simp at hjl
                injection he1 with he11 _ he13
                subst he11 he13
                have p0 : wr.cell? ⟨b1, off1 + j * 4, none⟩ = some (.int .u64 (r.lsn : Int)) := hop1 j r hr 0 _ rfl
                have p1 : wr.cell? ⟨b1, off1 + j * 4 + 1, none⟩ = some (.int .i64 r.kind) := hop1 j r hr 1 _ rfl
                have p2 : wr.cell? ⟨b1, off1 + j * 4 + 2, none⟩ = some (.string r.key) := hop1 j r hr 2 _ rfl
                have p3 : wr.cell? ⟨b1, off1 + j * 4 + 3, none⟩ = some (.string r.val) := hop1 j r hr 3 _ rfl
                obtain ⟨hct1, hct2⟩ := HCT.out r (List.mem_of_getElem? hr)
                have HCO := hd (counts_is wr (.slice aa es.length ca) es r HA.out (by omega) hct1 hct2)
                simp only [rv] at HCO
                clear hop1 hct1 hct2 hr
                go_wp2_with fail
                refine Calls.mono HCO.out ?_
                rintro e w9 ⟨rfl, hb9⟩
                have HREL : Hid (IsR w9 (.slice aa es.length ca) es ∧ IsQ w9 (.slice ac (liv es).length cc) (liv es) ∧ IsQ w9 (.slice ad (liv es).length cd) (liv es) ∧ IsR w9 (.slice (some ⟨b1, off1, none⟩) ms.length cm) ms ∧ Below w.heap.size w w9) := ⟨HA.out.below hb9, HC.out.below hb9, HD.out.below hb9, HI.out.below hb9, bel_tr HBw.out (bel_le hb9 HBw.out.size)⟩
                clear hb9 HCO p0 p1 p2 p3
                go_wp2_with fail
                go_roundw
                case rel => exact ⟨j + 1, by omega, by go_num, HREL.out⟩
                case measure => simp [intOf]; omega
              · obtain rfl : ms.length = j := by omega
                clear HA HI HCT
                go_wp2_with fail
                go_loopw [16] (fun i wq => ∃ j : Nat, j ≤ (liv es).length ∧ i = .int .i64 (j : Int) ∧ IsQ wq (.slice ac (liv es).length cc) (liv es) ∧ IsQ wq (.slice ad (liv es).length cd) (liv es) ∧ Below w.heap.size w wq) (fun i _ => (liv es).length - (intOf i).toNat)
                case atStart => exact ⟨0, by omega, rfl, HC.out, HD.out, HBw.out⟩
                case round =>
                  obtain ⟨j, hj, rfl, hC, hD, hB⟩ := hrel
                  have HC2 := hd hC; have HD2 := hd hD; have HBw2 := hd hB
                  clear hC hD hB HC HD HBw
                  have hlv : (liv es).length ≤ 100 := Nat.le_trans (List.length_filter_le _ _) hesl
                  by_cases hjl : j < (liv es).length
                  · obtain ⟨r, hr⟩ : ∃ r, (liv es)[j]? = some r := ⟨_, List.getElem?_eq_getElem hjl⟩
                    rcases HC2.out with ⟨hnil, _⟩ | ⟨b1, cx1, he1, hlc1, hcm1, hbl1, hop1⟩
                    · rw [hnil] at hjl; simp at hjl
                    rcases HD2.out with ⟨hnil, _⟩ | ⟨b2, cx2, he2, hlc2, hcm2, hbl2, hop2⟩
                    · rw [hnil] at hjl; simp at hjl
                    injection he1 with he11 _ he13
                    injection he2 with he21 _ he23
                    subst he11 he13 he21 he23
                    have p0 : wr.cell? ⟨b1, j * 2, none⟩ = some (.string r.key) := hop1 j r hr 0 _ rfl
                    have p1 : wr.cell? ⟨b1, j * 2 + 1, none⟩ = some (.string r.val) := hop1 j r hr 1 _ rfl
                    have q0 : wr.cell? ⟨b2, j * 2, none⟩ = some (.string r.key) := hop2 j r hr 0 _ rfl
                    have q1 : wr.cell? ⟨b2, j * 2 + 1, none⟩ = some (.string r.val) := hop2 j r hr 1 _ rfl
                    have hnq := pair_neq r.key r.val
                    have HREL : Hid (∀ n, IsQ (wr.drewN n) (.slice (some ⟨b1, 0, none⟩) (liv es).length cc) (liv es) ∧ IsQ (wr.drewN n) (.slice (some ⟨b2, 0, none⟩) (liv es).length cd) (liv es) ∧ Below w.heap.size w (wr.drewN n)) := fun n => by
                      have hb : Below wr.heap.size wr (wr.drewN n) := ⟨rfl, rfl, rfl, Nat.le_refl _, fun _ _ => rfl⟩
                      exact ⟨HC2.out.below hb, HD2.out.below hb, bel_tr HBw2.out (bel_le hb HBw2.out.size)⟩
                    clear hop1 hop2 hr
                    go_wp2_with fail
                    go_quiet (fail)
                    go_wp2_with fail
                    go_roundw
                    case rel => exact ⟨j + 1, by omega, by go_num, HREL.out _⟩
                    case measure => simp [intOf]; omega
                  · clear HC2 HD2
                    go_wp2_with fail
                    go_ret
                    exact ⟨rfl, HBw2.out⟩
end Fd
end Go.Proofs.Ytfaoemmkcmijfab
