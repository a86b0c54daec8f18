/-
  THE LAW'S works(): junk and two frames, as the chapter fixes it: it answers true.
  RAW RECORDS AS A WRITER'S: what the theorems' own written puts, plainly.
  THE WALK OF the theorems' own written: raw records are put on a disk by a writer.
-/
import Derived.Test.YtolddolfpnkndaaGreatXtbq
import Derived.Test.YtolddolfpnkndaaGreatXtbr
import Derived.Test.YtolddolfpnkndaaGreatXtbs
import Derived.Test.YtolddolfpnkndaaGreatXtbc
import Derived.Test.YtolddolfpnkndaaGreatXtbo
namespace Go.Proofs.YtolddolfpnkndaaGreat
open Go.RowKit Go.Shelf
namespace Vt
/-- a Put of the key tea -/
def tf (n : Nat) : Fr := ⟨1, ⟨n, 1, ⟨#[116, 101, 97]⟩, ⟨#[103, 114, 101, 101, 110]⟩⟩, zp, ze⟩
/-- junk and two frames -/
def two : List Nat := [1, 2] ++ (en (tf 1) ++ en (tf 2))
theorem en_byt {f : Fr} (h : rf f = 0) : Byt (en f) := by
  rw [en_eq]
  intro x hx
  rcases List.mem_cons.1 hx with rfl | hx
  · decide
  · exact byt_app (dg_byt _ _) (byt_app (wr_byt (bd_byt h)) (dg_byt _ _)) x hx
theorem en_len_le {f : Fr} (hw : f.Wf) (h : rf f = 0) : (en f).length ≤ 4409 := by
  have h1 := (bd_len hw h).1
  have h2 := (wr_len (bd f)).2
  rw [en_len]; omega
end Vt
end Go.Proofs.YtolddolfpnkndaaGreat
namespace Go.Proofs.YtolddolfpnkndaaGreat
open Go.RowKit Go.Maps Go.Sort
namespace Sg
open Vt Dk
structure Rw4 where
  k : Int
  y : Int
  v : Int
  n : Int
def wcl (x : Rw4) : List Value := [.int .i64 x.k, .int .i64 x.y, .int .i64 x.v, .int .i64 x.n]
def Rw4.Ok (x : Rw4) : Prop := (Lit.int .i64 x.k).wf = true ∧ (Lit.int .i64 x.y).wf = true ∧ (Lit.int .i64 x.v).wf = true ∧ (Lit.int .i64 x.n).wf = true
/-- a slice of raw records that came in -/
def IsRw (w : World) (v : Value) (l : List Rw4) : Prop :=
  (∀ x ∈ l, x.Ok) ∧ ((l = [] ∧ ∃ a c, v = .slice a 0 c) ∨ ∃ b off c, v = .slice (some ⟨b, off, none⟩) l.length c ∧ l.length ≤ c ∧ c ≤ maxLen ∧ b < w.heap.size ∧ ∀ i x, l[i]? = some x → ∀ j u, (wcl x)[j]? = some u → w.cell? ⟨b, off + i * 4 + j, none⟩ = some u)
theorem IsRw.shape {w : World} {v : Value} {l : List Rw4} (h : IsRw w v l) : ∃ a c, v = .slice a l.length c := by
  rcases h.2 with ⟨rfl, a, c, h⟩ | ⟨b, off, c, h, _⟩
  · exact ⟨a, c, h⟩
  · exact ⟨_, c, h⟩
theorem IsRw.keep {w w' : World} {n : Nat} {v : Value} {rs : List Rw4} (h : IsRw w v rs) (hn : w.heap.size ≤ n) (hb : Below n w w') : IsRw w' v rs := by
  refine ⟨h.1, ?_⟩
  rcases h.2 with h | ⟨b, off, c, h1, h2, h3, h4, h5⟩
  · exact .inl h
  · exact .inr ⟨b, off, c, h1, h2, h3, Nat.lt_of_lt_of_le h4 hb.size, fun i r hr j u hu => (World.cell?_of_block (hb.block b (Nat.lt_of_lt_of_le h4 hn))).trans (h5 i r hr j u hu)⟩
def zw : Rw4 := ⟨0, 0, 0, 0⟩
theorem IsRw.at {w : World} {a : Option Addr} {n c k : Nat} {l : List Rw4} (h : IsRw w (.slice a n c) l) (hk : k < l.length) : ∃ b off x, a = some ⟨b, off, none⟩ ∧ l.getD k zw = x ∧ x.Ok ∧ c ≤ maxLen ∧ b < w.heap.size ∧ ∀ j u, (wcl x)[j]? = some u → w.cell? ⟨b, off + k * 4 + j, none⟩ = some u := by
  obtain ⟨h0, ⟨rfl, _⟩ | ⟨b, off, c', e, _, h3, h4, h5⟩⟩ := h
  · simp at hk
  · injection e with e1 e2 e3
    have hx : l[k]? = some (l.getD k zw) := by rw [List.getD_eq_getElem?_getD, List.getElem?_eq_getElem hk]; rfl
    exact ⟨b, off, _, e1, rfl, h0 _ (List.mem_of_getElem? hx), by rw [e3]; exact h3, h4, fun j u hu => h5 k _ hx j u hu⟩
theorem IsRw.len {w : World} {a : Option Addr} {n c : Nat} {l : List Rw4} (h : IsRw w (.slice a n c) l) : l.length ≤ maxLen := by
  obtain ⟨_, ⟨rfl, _⟩ | ⟨b, off, c', e, h2, h3, _⟩⟩ := h
  · exact Nat.zero_le _
  · omega
/-- the records -/
def twR (l : List Rw4) (i : Nat) : Rec := rcQ (l.getD i zw).k (l.getD i zw).y (l.getD i zw).v (i + 1)
def twS (l : List Rw4) (i : Nat) : Bool := decide (pkN (l.getD i zw).n 6 = 0)
def twX (_ : Nat) : Nat := 0
theorem twX_le (i : Nat) : twX i ≤ 1 := Nat.zero_le _
theorem rcQ_lsn (k y v : Int) (n : Nat) : (rcQ k y v n).lsn = n := by unfold rcQ; split <;> rfl
theorem rcQ_kind (k y v : Int) (n : Nat) : (rcQ k y v n).kind = 1 ∨ (rcQ k y v n).kind = 2 := by
  unfold rcQ; split
  · exact .inr rfl
  · exact .inl rfl
theorem tw_ok (l : List Rw4) : Rok (twR l) 100 := by
  refine ⟨fun i hi => ?_, fun i hi => ?_, fun i hi => ?_, fun i _ => rcQ_kind _ _ _ _, by omega⟩
  · exact (rcQ_may _ _ _ (by omega) (by omega)).2.2.1
  · exact (rcQ_may _ _ _ (by omega) (by omega)).2.1
  · have h := rcQ_may (l.getD i zw).k (l.getD i zw).y (l.getD i zw).v (n := i + 1) (by omega) (by omega)
    exact en_len_le h.2.1 h.2.2.1
/-- how many are synced behind k -/
def lastS (l : List Rw4) : Nat → Nat
  | 0 => 0
  | k + 1 => if twS l k then k + 1 else lastS l k
theorem lastS_le (l : List Rw4) : ∀ k, lastS l k ≤ k
  | 0 => Nat.le_refl _
  | k + 1 => by unfold lastS; have := lastS_le l k; split <;> omega
/-- the state at the start -/
def tw0 (lim evy : Int) : Ws × Ds := (⟨64 + pkN lim 2000, pkN evy 8, true, 0, 0, 0⟩, ds0 2097152)
theorem tw0_ok (lim evy : Int) : Gk 2097152 (64 + pkN lim 2000) (pkN evy 8) 0 (tw0 lim evy) := gk0 2097152 _ _ (by omega)
end Sg
end Go.Proofs.YtolddolfpnkndaaGreat
namespace Go.Proofs.YtolddolfpnkndaaGreat
open Go.RowKit Go.Maps Go.Sort
namespace Sg
open Vt Dk
attribute [local go_sem ↓] append_hid
theorem tresults4 {fn : Func} {t u v x : Tmp} (h : fn.results = #[.tmp t, .tmp u, .tmp v, .tmp x]) (tmps : Array Value) (P : Program) (w : World) :
    (results fn tmps).run P w = .ok (.tuple #[tmps.getD t undef, tmps.getD u undef, tmps.getD v undef, tmps.getD x undef]) w := by
  simp [results, h]
set_option maxRecDepth 100000 in
set_option maxHeartbeats 4000000 in
theorem twritten_is (w : World) (B : Nat) (v : Value) (l : List Rw4) (lim evy : Int) (hB : B ≤ w.heap.size) (h1 : (Lit.int .i64 lim).wf = true) (h2 : (Lit.int .i64 evy).wf = true) (hI : ∃ w0, IsRw w0 v l ∧ Below B w0 w ∧ w0.heap.size ≤ B) :
    Calls Tryz.prog 20 #[v, .int .i64 lim, .int .i64 evy] w fun e w' => ∃ b d u, e = .returned (.tuple #[.pointer (some ⟨d, 0, none⟩), u, .int .i64 ((lastS l (min l.length 100) : Nat) : Int), .bool true]) ∧ Gq (twR l) (twS l) twX 0 w.heap.size w b d (tw0 lim evy) (min l.length 100) u w' := by
  obtain ⟨w0, hI, hBI, hB0⟩ := hI
  obtain ⟨a, c, rfl⟩ := hI.shape
  have hlen := hI.len
  unfold maxLen at hlen
  have HI : Hid (∀ w', Below B w w' → IsRw w' (.slice a l.length c) l) := fun w' hb => hI.keep hB0 (hBI.trans hb)
  have p1 := pkN_lt lim (n := 2000) (by omega)
  have p2 := pkN_lt evy (n := 8) (by omega)
  have HP1 : Hid (∀ w, Calls Tryz.prog 23 #[.int .i64 lim, .int .i64 2000] w fun e w' => e = .returned (.int .i64 ((pkN lim 2000 : Nat) : Int)) ∧ w' = w) := fun w => tpick_eq lim 2000 w (by omega) (by omega) h1
  have HP2 : Hid (∀ w, Calls Tryz.prog 23 #[.int .i64 evy, .int .i64 8] w fun e w' => e = .returned (.int .i64 ((pkN evy 8 : Nat) : Int)) ∧ w' = w) := fun w => tpick_eq evy 8 w (by omega) (by omega) h2
  obtain ⟨X, hX⟩ : ∃ X, X = tw0 lim evy := ⟨_, rfl⟩
  have HOK : Hid (∀ k, k ≤ 100 → Gk 2097152 (64 + pkN lim 2000) (pkN evy 8) k (gsat (twR l) (twS l) twX X k)) := by rw [hX]; exact gsat_ok (tw_ok l) twX_le (by omega) (tw0_ok lim evy)
  have HXE : Hid (X = (⟨64 + pkN lim 2000, pkN evy 8, true, 0, 0, 0⟩, ds0 2097152)) := hX
  rw [← hX]
  clear h1 h2 hI hBI hX
  generalize pkN lim 2000 = la at *
  generalize pkN evy 8 = lb at *
  have HST : Hid (∀ (w : World) (d : Nat), Calls Tryz.prog 25 #[.pointer (some ⟨d, 0, none⟩), .int .i64 (64 + (la : Int)), .int .i64 (lb : Int)] w fun e w' => e = .returned (.tuple #[.pointer (some ⟨w.heap.size, 0, none⟩), .int .i64 0]) ∧ Blk w' w.heap.size TW (wcs d ⟨64 + la, lb, true, 0, 0, 0⟩) ∧ Below w.heap.size w w') := by
    intro w d
    have := start_is w d (64 + la) lb (by omega) (by omega) (by omega)
    rw [show (((64 + la : Nat) : Nat) : Int) = 64 + (la : Int) by omega] at this
    exact this
  go_enter Tryz.func20, Tryz.ntmps20
  go_wp2_with fail
  refine Calls.mono (new0_is w 2097152 (by omega)) ?_
  rintro e w1 ⟨d, O, rfl, hK, hT, hO⟩
  have HK := hd hK
  have HT := hd hT
  have HO := hd hO
  clear hK hT hO
  go_wp2_with fail
  refine Calls.mono (HP1.out _) ?_
  rintro e w2 ⟨rfl, rfl⟩
  go_wp2_with fail
  refine Calls.mono (HP2.out _) ?_
  rintro e w3 ⟨rfl, rfl⟩
  go_wp2_with fail
  refine Calls.mono (HST.out _ d) ?_
  rintro e w4 ⟨rfl, hB4, hb4⟩
  have HZ : Hid (Gq (twR l) (twS l) twX 0 w.heap.size w w3.heap.size d X 0 (.slice none 0 0) w4) := by
    refine ⟨⟨O, ?_, HO.out, fun g hg => by cases hg⟩, jr_nil w4 _, ?_, ?_⟩
    · show WK w4 w3.heap.size d O X.1 X.2
      rw [HXE.out]
      exact ⟨HK.out.aside (Tr.ofB hb4 (fun _ => False)) (fun _ _ q => q), hB4, fun q => by have := HK.out.olt _ q; omega⟩
    · exact (HT.out.below (fun k q => q.elim) (Nat.le_refl _)).trans (hb4.mono HT.out.size)
    · exact HT.out.size
  have hs4 : w.heap.size ≤ w4.heap.size := Nat.le_trans HT.out.size hb4.size
  obtain ⟨bb, hbb⟩ : ∃ bb, bb = w3.heap.size := ⟨_, rfl⟩
  rw [← hbb] at HZ ⊢
  clear hB4 hb4 HK HT HO hbb
  go_wp2_with fail
  go_loopw [14, 15, 16] (fun u sv i wq => ∃ k : Nat, k ≤ l.length ∧ k ≤ 100 ∧ i = .int .i64 (k : Int) ∧ sv = .int .i64 ((lastS l k : Nat) : Int) ∧ Gq (twR l) (twS l) twX 0 w.heap.size w bb d X k u wq) (fun _ _ i _ => l.length - (intOf i).toNat)
  case atStart => exact ⟨0, by omega, by omega, rfl, rfl, HZ.out⟩
  case round =>
    obtain ⟨k, hk, hk6, rfl, rfl, hW⟩ := hrel
    have HW := hd hW
    clear hW HZ
    obtain ⟨ls, hls⟩ : ∃ ls, ls = lastS l k := ⟨_, rfl⟩
    rw [← hls]
    have HLSZ := hd hls
    clear hls
    by_cases hlt : k < l.length
    · by_cases h60 : k < 100
      · obtain ⟨lb, off, x, rfl, hgd, hok, hcm, hlb, hcc⟩ := (HI.out wr (HW.out.bel.mono hB)).at hlt
        have HGD := hd hgd
        have HXK := hd hok
        have hki : ((k : Nat) : Int) < (l.length : Int) := by omega
        have hki2 : ((k : Nat) : Int) < 100 := by omega
        have d0 := hcc 0 _ rfl
        have d1 := hcc 1 _ rfl
        have d2 := hcc 2 _ rfl
        have d3 := hcc 3 _ rfl
        rw [Nat.add_zero] at d0
        have hBr : w.heap.size ≤ wr.heap.size := HW.out.bel.size
        have HRO := hd (recordOf_eq x.k x.y x.v x.n (k + 1) · hok.1 hok.2.1 hok.2.2.1)
        have HPN := hd (tpick_eq x.n 6 · (by omega) (by omega) hok.2.2.2)
        unfold maxLen at hcm
        clear hgd hok hcc
        go_wp2_with fail
        have hcN := HOK.out (0 + k) (by omega)
        obtain ⟨rk, rkey, rval, hR⟩ : ∃ rk rkey rval, twR l (0 + k) = ⟨k + 1, rk, rkey, rval⟩ := by
          refine ⟨(twR l (0 + k)).kind, (twR l (0 + k)).key, (twR l (0 + k)).val, ?_⟩
          have h := rcQ_lsn (l.getD (0 + k) zw).k (l.getD (0 + k) zw).y (l.getD (0 + k) zw).v (0 + k + 1)
          have h' : (twR l (0 + k)).lsn = k + 1 := by show (rcQ _ _ _ (0 + k + 1)).lsn = _; rw [h, Nat.zero_add]
          rw [← h']
        have hRq : rcQ x.k x.y x.v (k + 1) = ⟨k + 1, rk, rkey, rval⟩ := by
          rw [← hR]; unfold twR; rw [Nat.zero_add, HGD.out]
        have hro : ∀ w', Calls Tryz.prog 22 #[.agg #[.int .i64 x.k, .int .i64 x.y, .int .i64 x.v, .int .i64 x.n], .int .u64 ((k : Int) + 1)] w' fun e w'' => e = .returned (.agg #[.int .u64 ((k : Int) + 1), .int .i64 rk, .string rkey, .string rval]) ∧ Below w'.heap.size w' w'' := by
          intro w'
          have h := HRO.out w'
          rw [hRq, show (((k + 1 : Nat) : Nat) : Int) = (k : Int) + 1 by omega] at h
          exact h
        refine Calls.mono (hro wr) ?_
        rintro e w2' ⟨rfl, hB2⟩
        have hW2 := HW.out.bels hB2 hBr
        have hpu := (hW2.put (tw_ok l) twX_le (by omega) hcN (by omega) (Nat.le_trans hBr hB2.size))
        rw [hR] at hpu
        simp only [show rv (⟨k + 1, rk, rkey, rval⟩ : Rec) = #[.int .u64 (((k + 1 : Nat)) : Int), .int .i64 rk, .string rkey, .string rval] from rfl, show (((k + 1 : Nat) : Nat) : Int) = (k : Int) + 1 by omega] at hpu
        have HPU := hd hpu
        have hsy0 : twS l (0 + k) = decide (pkN x.n 6 = 0) := by unfold twS; rw [Nat.zero_add, HGD.out]
        have hsyk : twS l k = decide (pkN x.n 6 = 0) := by unfold twS; rw [HGD.out]
        have HLN : Hid (lastS l (k + 1) = if decide (pkN x.n 6 = 0) then k + 1 else ls) := by rw [HLSZ.out, ← hsyk]; rfl
        have HSC := hd hsy0
        have HD3 : Hid (∀ w', Below B w w' → w'.cell? ⟨lb, off + k * 4 + 3, none⟩ = some (.int .i64 x.n)) := by
          intro w' hb'
          obtain ⟨lb', off', l', e1, e2, _, _, _, q3⟩ := (HI.out w' hb').at hlt
          injection e1 with e1
          injection e1 with e1 e4
          subst e1 e4
          have e5 : x = l' := HGD.out.symm.trans e2
          rw [e5]
          exact q3 3 _ rfl
        have HST := hd (hcN.step (sy := twS l) (ex := twX) (tw_ok l) twX_le (by omega) (by omega))
        have HNX : Hid (gsat (twR l) (twS l) twX X (0 + (k + 1)) = gstp (twR l) (twS l) twX (0 + k) (gsat (twR l) (twS l) twX X (0 + k)) ∧ gpls (twR l) (twS l) twX X 0 (k + 1) = gpls (twR l) (twS l) twX X 0 k ++ [gplc (twR l) (0 + k) (gsat (twR l) (twS l) twX X (0 + k))]) := ⟨rfl, rfl⟩
        have HPL := hd (gpls_len (twR l) (twS l) twX X 0 k)
        have HLE := hd HW.out.le
        clear hB2 hW2 d0 d1 d2 d3 hpu hro hRq hR hsy0 hsyk hcN HRO
        obtain ⟨⟨p1, p2, p3⟩, hp⟩ : ∃ p, gplc (twR l) (0 + k) (gsat (twR l) (twS l) twX X (0 + k)) = p := ⟨_, rfl⟩
        rw [hp] at HPU HNX
        clear hp
        have HCC : Hid (∀ (ww : World) (A : Obj) (j : Nat) (u : Value), ([.int .u32 (p1 : Int), .int .i64 (p2 : Int), .int .i64 (p3 : Int)] : List Value)[j]? = some u → ((ww.alloc A).alloc (.cells #[.int .u32 (p1 : Int), .int .i64 (p2 : Int), .int .i64 (p3 : Int)] TPl)).cell? ⟨ww.heap.size + 1, j, none⟩ = some u) := by
          intro ww A j u hu
          have := Blk.new (ww.alloc A) TPl [.int .u32 (p1 : Int), .int .i64 (p2 : Int), .int .i64 (p3 : Int)]
          rw [alloc_size] at this
          exact this.cell j u hu
        go_wp2_with fail
        refine Calls.mono HPU.out ?_
        rintro e w3 ⟨rfl, hex, hrow, hbel, hBs3⟩
        have HEX := hd hex
        have HROW := hd hrow
        have HBEL := hd hbel
        clear hex hrow hbel
        have HONE : Hid (∀ u ∈ ([.int .u32 (p1 : Int), .int .i64 (p2 : Int), .int .i64 (p3 : Int)] : List Value), u.oneCell' = true) := by
          intro u hu; simp at hu; rcases hu with rfl | rfl | rfl <;> rfl
        go_wp2_with (at_builtin; refine wpList_append_jr Tryz.underlying65 info_pl rfl (by decide) _ rfl _ _ rfl w.heap.size u14 ((gpls (twR l) (twS l) twX X 0 k).map plC) (w3.heap.size + 1) 1 [.int .u32 (p1 : Int), .int .i64 (p2 : Int), .int .i64 (p3 : Int)] rfl rfl ((HROW.out.alloc _).alloc _) rfl HONE.out (HCC.out w3 _) (k + 1) (by rw [List.length_map, HPL.out]) (by omega) (by unfold maxLen; omega) (by rw [alloc_size, alloc_size]; omega) ?_; intro g' cap w5 hJ5 hg5 ho5; have hz := app_all (n := k + 1) (cap := cap) HEX.out HROW.out HBEL.out hBs3 hg5 ho5; have e3 := HD3.out w5 (hz.2.1.mono hB); have HZ := hd hz; have HJ5 := hd hJ5; clear hJ5 hg5 ho5 hz)
        refine Calls.mono (HPN.out _) ?_
        rintro e w5' ⟨rfl, rfl⟩
        obtain ⟨pn, hpn⟩ : ∃ pn, pn = pkN x.n 6 := ⟨_, rfl⟩
        rw [← hpn] at HSC HLN ⊢
        clear hpn
        by_cases hsy : pn = 0
        · subst hsy
          have HSY : Hid (decide ((0 : Nat) = 0) = true) := rfl
          go_wp2_with fail
          obtain ⟨O5, hk5, ho5', hv5⟩ := HZ.out.1
          have hun : (pt (gsat (twR l) (twS l) twX X (0 + k)).1 (gsat (twR l) (twS l) twX X (0 + k)).2 (gB (twR l) (0 + k))).2.1.uns ≠ 0 → Nam.Nu (pt (gsat (twR l) (twS l) twX X (0 + k)).1 (gsat (twR l) (twS l) twX X (0 + k)).2 (gB (twR l) (0 + k))).2.1.num := fun _ => HST.out.2.2.2.2.2.1
          have HWS := hd (wsync_is w5' bb d O5 _ _ hk5 HST.out.2.2.2.1 (by have := HST.out.2.2.2.2.1; omega) hun)
          rw [HST.out.2.1] at HWS
          have HO5 := hd ho5'
          have HV5 := hd hv5
          clear hk5 ho5' hv5 hun
          refine Calls.mono HWS.out ?_
          rintro e w6 ⟨rfl, hN6⟩
          have hlt5 : ∀ g, (Value.slice (some ⟨g', 0, none⟩) (k + 1) cap).ownBlock = some g → g < w5'.heap.size := HJ5.out.blk_lt
          have HE6 := hd (ex_sync HO5.out HV5.out HZ.out.2.2 hlt5 hN6)
          have HN6 := hd hN6
          clear hN6 hlt5
          go_wp2_with fail
          refine ⟨⟨k + 1, by omega, by omega, by go_num, by rw [HLN.out, HSY.out]; go_num, ?_⟩, by simp [intOf]; omega⟩
          have hs1 : gsat (twR l) (twS l) twX X (0 + (k + 1)) = (syR (pt (gsat (twR l) (twS l) twX X (0 + k)).1 (gsat (twR l) (twS l) twX X (0 + k)).2 (gB (twR l) (0 + k))).2.1 (pt (gsat (twR l) (twS l) twX X (0 + k)).1 (gsat (twR l) (twS l) twX X (0 + k)).2 (gB (twR l) (0 + k))).2.2).2 := by rw [HNX.out.1]; unfold gstp gst0; rw [HSC.out, HSY.out]; rfl
          obtain ⟨O6, _, q2, _⟩ := HN6.out
          refine ⟨?_, ?_, ?_, HLE.out⟩
          · rw [hs1]; exact HE6.out
          · rw [HNX.out.2, List.map_append]
            exact jr_same HJ5.out fun g hg => q2.block g (HJ5.out.blk_lt g hg) (fun q => q.elim (HV5.out g hg).1 (HV5.out g hg).2)
          · exact HZ.out.2.1.trans (q2.below (fun x q => q.elim (HO5.out x) (fun e => by rw [e]; exact HLE.out)) HZ.out.2.2)
        · have hpi : ¬ ((pn : Nat) : Int) = 0 := by omega
          have HSY : Hid (decide (pn = 0) = false) := decide_eq_false hsy
          go_wp2_with fail
          refine ⟨⟨k + 1, by omega, by omega, by go_num, by rw [HLN.out, HSY.out]; rfl, ?_⟩, by simp [intOf]; omega⟩
          have hs1 : gsat (twR l) (twS l) twX X (0 + (k + 1)) = (pt (gsat (twR l) (twS l) twX X (0 + k)).1 (gsat (twR l) (twS l) twX X (0 + k)).2 (gB (twR l) (0 + k))).2 := by rw [HNX.out.1]; unfold gstp gst0; rw [HSC.out, HSY.out]; rfl
          refine ⟨?_, ?_, HZ.out.2.1, HLE.out⟩
          · rw [hs1]; exact HZ.out.1
          · rw [HNX.out.2, List.map_append]; exact HJ5.out
      · obtain rfl : k = 100 := by omega
        go_wp2_with fail
        refine bodyPost_ret (tresults4 rfl _ _ _) rfl ?_
        have e9 : min l.length 100 = 100 := by omega
        rw [e9]
        exact ⟨bb, d, _, by rw [HLSZ.out]; rfl, HW.out⟩
    · obtain rfl : k = l.length := by omega
      go_wp2_with fail
      refine bodyPost_ret (tresults4 rfl _ _ _) rfl ?_
      have e9 : min l.length 100 = l.length := by omega
      rw [e9]
      exact ⟨bb, d, _, by rw [HLSZ.out]; rfl, HW.out⟩
end Sg
end Go.Proofs.YtolddolfpnkndaaGreat
