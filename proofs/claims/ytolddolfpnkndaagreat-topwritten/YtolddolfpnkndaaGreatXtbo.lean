/-
  THE WALK OF THE LAW'S written, from any state behind records that were put: all lines are put, their places gathered.
  A FRAME, A RECORD AS AN ARGUMENT: what the form of a call says of its cells.
  RECORDS OF RAW NUMBERS: the theorems' own pick, keyOf, valueOf, recordOf, framed, joined: whatever the numbers, a record that may be.
  RECORDS OF RAW NUMBERS, the same each time: pick, keyOf, valueOf, recordOf answer by their arguments alone.
  WHAT A SCAN FINDS, PLAINLY: the list 'locs' of all frames among some bytes, with their places (every place is asked); from lead byte to lead byte; frames laid down and found again; what is between.
-/
import Derived.Test.YtolddolfpnkndaaGreatXtbk
import Derived.Test.YtolddolfpnkndaaGreatXtbn
import Derived.Test.YtolddolfpnkndaaGreatXtbc
import Derived.Test.YtolddolfpnkndaaGreatXtbm
import Derived.Test.YtolddolfpnkndaaGreatXtbd
namespace Go.Proofs.YtolddolfpnkndaaGreat
open Go.RowKit Go.Maps Go.Sort
namespace Sg
open Vt Dk
attribute [local go_sem ↓] append_hid
/-- what stands in memory behind k lines -/
structure Gq (rs : Nat → Rec) (sy : Nat → Bool) (ex : Nat → Nat) (c : Nat) (B : Nat) (w : World) (b d : Nat) (X : Ws × Ds) (k : Nat) (v : Value) (wq : World) : Prop where
  own : ∃ O, WK wq b d O (gsat rs sy ex X (c + k)).1 (gsat rs sy ex X (c + k)).2 ∧ (∀ x, O x → B ≤ x) ∧ ∀ g, v.ownBlock = some g → ¬ O g ∧ g ≠ b
  row : JR TPl 3 wq B v ((gpls rs sy ex X c k).map plC)
  bel : Below B w wq
  le : B ≤ b
theorem Gq.bels {rs : Nat → Rec} {sy : Nat → Bool} {ex : Nat → Nat} {c : Nat} {B : Nat} {w : World} {b d : Nat} {X : Ws × Ds} {k : Nat} {v : Value} {wq w' : World} (h : Gq rs sy ex c B w b d X k v wq) (hb : Below wq.heap.size wq w') (hB : B ≤ wq.heap.size) : Gq rs sy ex c B w b d X k v w' := by
  obtain ⟨O, h1, h2, h3⟩ := h.own
  exact ⟨⟨O, h1.below hb, h2, h3⟩, h.row.keepAll hb, h.bel.trans (hb.mono hB), h.le⟩
/-- what a Put, and a Sync if it is asked for, leave of it -/
theorem Gq.put {rs : Nat → Rec} {sy : Nat → Bool} {ex : Nat → Nat} {c : Nat} {B : Nat} {w : World} {b d : Nat} {X : Ws × Ds} {k : Nat} {v : Value} {wq : World} (h : Gq rs sy ex c B w b d X k v wq) {N cp lim evy : Nat} (hr : Rok rs N) (he : ∀ i, ex i ≤ 1) (hcp : 600000 ≤ cp) (hok : Gk cp lim evy (c + k) (gsat rs sy ex X (c + k))) (hk : c + k < N) (hB : B ≤ wq.heap.size) :
    Calls Tryz.prog 9 #[.pointer (some ⟨b, 0, none⟩), .agg (rv (rs (c + k)))] wq fun e w' => e = .returned (.tuple #[.agg #[.int .u32 ((gplc rs (c + k) (gsat rs sy ex X (c + k))).1 : Int), .int .i64 ((gplc rs (c + k) (gsat rs sy ex X (c + k))).2.1 : Int), .int .i64 ((gplc rs (c + k) (gsat rs sy ex X (c + k))).2.2 : Int)], .int .i64 0]) ∧ (∃ O, WK w' b d O (pt (gsat rs sy ex X (c + k)).1 (gsat rs sy ex X (c + k)).2 (gB rs (c + k))).2.1 (pt (gsat rs sy ex X (c + k)).1 (gsat rs sy ex X (c + k)).2 (gB rs (c + k))).2.2 ∧ (∀ x, O x → B ≤ x) ∧ ∀ g, v.ownBlock = some g → ¬ O g ∧ g ≠ b) ∧ JR TPl 3 w' B v ((gpls rs sy ex X c k).map plC) ∧ Below B w w' ∧ B ≤ w'.heap.size := by
  obtain ⟨O, h1, h2, h3⟩ := h.own
  obtain ⟨s1, s2, s3, s4, s5, s6, _⟩ := hok.step (sy := sy) (ex := ex) hr he hcp hk
  have hfl := hr.len _ hk
  have hN := hr.le
  have hop : (gsat rs sy ex X (c + k)).1.op = true := by rcases hok.at_ with ⟨_, q⟩ | ⟨_, _, _, _, q, _⟩ <;> exact q.op
  have hnum : (gsat rs sy ex X (c + k)).1.num ≠ 0 → Nam.Nu (gsat rs sy ex X (c + k)).1.num := by
    rcases hok.at_ with ⟨_, q⟩ | ⟨_, o, c, s, q, q2, _, _⟩
    · intro e; exact absurd q.num e
    · intro _; rw [q.num]; exact ⟨by omega, by omega⟩
  have hun : (gsat rs sy ex X (c + k)).1.uns ≠ 0 → (gsat rs sy ex X (c + k)).1.num ≠ 0 := by
    rcases hok.at_ with ⟨_, q⟩ | ⟨_, o, c, s, q, q2, _, _⟩
    · intro e; exact absurd q.uns e
    · intro _; rw [q.num]; omega
  have hla : (gsat rs sy ex X (c + k)).1.laid < 1000000000 := by
    rcases hok.at_ with ⟨_, q⟩ | ⟨_, o, c, s, q, q2, q3, _⟩
    · rw [q.laid]; omega
    · rw [q.laid]; omega
  refine (put_is wq b d O _ _ (rs (c + k)) h1 hop (by have := hok.acts; omega) hnum hun (hr.wf _ hk) (hr.rf _ hk) hla (by omega) (by have := hok.uns; omega)).mono ?_
  rintro e w' ⟨rfl, O', k1, k2, k3⟩
  have hs1 : (pt (gsat rs sy ex X (c + k)).1 (gsat rs sy ex X (c + k)).2 (en (ofR (rs (c + k))))).1 = 0 := s1
  refine ⟨?_, ⟨O', k1, fun x q => (k3 x q).elim (h2 x) (fun q => Nat.le_trans hB q), fun g hg => ⟨fun q => (k3 g q).elim (h3 g hg).1 (fun q => by have := h.row.blk_lt g hg; omega), (h3 g hg).2⟩⟩, ?_, ?_, Nat.le_trans hB k2.size⟩
  · rw [if_pos hs1, hs1]; rfl
  · exact jr_same h.row fun g hg => k2.block g (h.row.blk_lt g hg) (fun q => q.elim (h3 g hg).1 (h3 g hg).2)
  · exact h.bel.trans (k2.below (fun x q => q.elim (h2 x) (fun e => by rw [e]; exact h.le)) hB)
end Sg
end Go.Proofs.YtolddolfpnkndaaGreat
namespace Go.Proofs.YtolddolfpnkndaaGreat
open Go.ChangeShapes Go.WideShapes Go.ChangeAt Go.RowKit
namespace Vt
end Vt
end Go.Proofs.YtolddolfpnkndaaGreat
namespace Go.Proofs.YtolddolfpnkndaaGreat
open Go.ChangeShapes Go.WideShapes Go.ChangeAt Go.RowKit Go.Shelf
namespace Vt
/-- how long a text is -/
def strLen : Value → Nat
  | .string t => t.size
  | _ => 0
/-- what looks like a frame within a value -/
def forg : Fr := ⟨1, ⟨999999, 1, ⟨#[97]⟩, ⟨#[102, 111, 114, 103, 101, 100]⟩⟩, zp, ze⟩
theorem forg_wf : forg.Wf := ⟨(by decide : (999999 : Nat) < 18446744073709551616), (by decide : (0 : Nat) < 18446744073709551616), (by decide : (0 : Nat) < 4294967296)⟩
/-- a Put that may be -/
theorem put_rf {n : Nat} {k v : ByteArray} (h : n ≠ 0) (hk : 1 ≤ k.size ∧ k.size ≤ 64) (hv : v.size ≤ 2048) : rf ⟨1, ⟨n, 1, k, v⟩, zp, ze⟩ = 0 := by
  unfold rf
  rw [if_pos (Or.inl rfl)]
  unfold rfR
  rw [if_neg (fun q => q rfl), if_neg h, if_neg (fun q => q hk), if_neg (by simp only; rw [if_neg (by decide)]; omega), if_neg (fun q => q rfl)]
/-- a Delete that may be -/
theorem del_rf {n : Nat} {k : ByteArray} (h : n ≠ 0) (hk : 1 ≤ k.size ∧ k.size ≤ 64) : rf ⟨2, ⟨n, 2, k, ByteArray.empty⟩, zp, ze⟩ = 0 := by
  unfold rf
  rw [if_pos (Or.inr rfl)]
  unfold rfR
  rw [if_neg (fun q => q rfl), if_neg h, if_neg (fun q => q hk), if_neg (by simp), if_neg (fun q => q rfl)]
theorem forg_rf : rf forg = 0 := put_rf (by decide) ⟨(by decide : 1 ≤ 1), (by decide : 1 ≤ 64)⟩ (by decide : 6 ≤ 2048)
theorem en_bytR {f : Fr} (h : rf f = 0) : Byt (en f) := by
  rw [en_eq]
  intro x hx
  rcases List.mem_cons.1 hx with rfl | hx
  · decide
  · exact byt_app (dg_byt _ _) (byt_app (wr_byt (bd_byt h)) (dg_byt _ _)) x hx
theorem forg_len : (en forg).length ≤ 100 := by
  have h1 : (bd forg).length ≤ 40 := by
    have e : bd forg = [[1], vs [999999, 1], bl ⟨#[97]⟩, bl ⟨#[102, 111, 114, 103, 101, 100]⟩].flatten := by
      unfold bd bp
      rw [if_pos (show forg.kind = 1 from rfl)]; rfl
    have h2 := vrt_ten (n := 999999) (by decide)
    have h3 := vrt_ten (n := 1) (by decide)
    rw [e]
    simp only [List.flatten_cons, List.flatten_nil, List.length_append, List.length_cons, List.length_nil, vs, List.map_cons, List.map_nil, bl_len]
    rw [show (ByteArray.mk #[97]).size = 1 from rfl, show (ByteArray.mk #[102, 111, 114, 103, 101, 100]).size = 6 from rfl]
    omega
  have h2 := (wr_len (bd forg)).2
  rw [en_len]; omega
/-- a record that may be, whatever the numbers; its frame's body is small -/
def MayR (n : Nat) (r : Rec) : Prop := r.lsn = n ∧ (ofR r).Wf ∧ rf (ofR r) = 0 ∧ (bd (ofR r)).length ≤ 700
theorem bd_small {f : Fr} (hw : f.Wf) (h : rf f = 0) (c12 : f.kind = 1 ∨ f.kind = 2) (hv : f.r.val.size ≤ 500) : (bd f).length ≤ 700 := by
  obtain ⟨w1, w2, w3⟩ := hw
  unfold rf at h
  unfold bd bp
  rw [if_pos c12] at h
  obtain ⟨h1, h2, h3, h4, h5⟩ := rfR_ok h
  have v1 := vrt_ten w1
  have v2 := vrt_ten (n := f.r.key.size) (by have := h3.2; omega)
  have h32 := h3.2
  by_cases c1 : f.kind = 1
  · rw [if_pos c1]
    simp [vs, bl_len]; omega
  · rw [if_neg c1, if_pos (by omega)]
    simp [vs, bl_len]; omega
end Vt
end Go.Proofs.YtolddolfpnkndaaGreat
namespace Go.Proofs.YtolddolfpnkndaaGreat
open Go.ChangeShapes Go.WideShapes Go.ChangeAt Go.RowKit Go.Shelf
namespace Vt
/-- which of n things a raw number speaks of -/
def pkN (z : Int) (n : Nat) : Nat := if z < 0 then ((-(z + 1)).tmod (n : Int)).toNat else (z % (n : Int)).toNat
theorem pkN_lt (z : Int) {n : Nat} (hn : 0 < n) : pkN z n < n := by
  unfold pkN
  split
  · have h1 := Int.tmod_lt_of_pos (-(z + 1)) (show (0 : Int) < n by omega)
    omega
  · have h1 := Int.emod_lt_of_pos z (show (0 : Int) < n by omega)
    omega
set_option maxRecDepth 100000 in
theorem tpick_eq (z : Int) (n : Nat) (w : World) (hn : 0 < n) (hn2 : n ≤ 1099511627776) (hz : (Lit.int .i64 z).wf = true) :
    Calls Tryz.prog 23 #[.int .i64 z, .int .i64 (n : Int)] w fun e w' => e = .returned (.int .i64 (pkN z n : Int)) ∧ w' = w := by
  have hb := bounds_i64 hz
  unfold pkN
  by_cases h : z < 0
  · rw [if_pos h]
    go_enter Tryz.func23, Tryz.ntmps23
    go_wp2
    go_ret
    refine ⟨?_, rfl⟩
    have h2 := Int.tmod_nonneg (n : Int) (show (0 : Int) ≤ -(z + 1) by omega)
    rw [Int.toNat_of_nonneg h2, Int.neg_tmod]; rfl
  · rw [if_neg h]
    go_enter Tryz.func23, Tryz.ntmps23
    go_wp2
    go_ret
    refine ⟨?_, rfl⟩
    rw [show max (z % (n : Int)) 0 = z % (n : Int) from Int.max_eq_left (Int.emod_nonneg z (show (n : Int) ≠ 0 by omega))]; rfl
/-- the longest key, as it grows -/
def kyq : Nat → ByteArray
  | 0 => ⟨#[102]⟩
  | j + 1 => kyq j ++ ⟨#[166]⟩
theorem kyq_size (j : Nat) : (kyq j).size = j + 1 := by
  induction j with
  | zero => rfl
  | succ j ih => show (kyq j ++ ⟨#[166]⟩).size = _; rw [ByteArray.size_append, ih]; rfl
/-- one of six keys -/
def kyF (k : Nat) : ByteArray :=
  if k = 0 then ⟨#[97]⟩ else if k = 1 then ⟨#[98]⟩ else if k = 2 then ⟨#[99]⟩ else if k = 3 then ⟨#[100]⟩ else if k = 4 then ⟨#[101, 167, 0, 166, 167]⟩ else kyq 63
theorem kyF_size (k : Nat) : 1 ≤ (kyF k).size ∧ (kyF k).size ≤ 64 := by
  unfold kyF
  split
  · decide
  split
  · decide
  split
  · decide
  split
  · decide
  split
  · decide
  rw [kyq_size]
  omega
set_option maxRecDepth 100000 in
set_option maxHeartbeats 2000000 in
theorem keyOf_eq (z : Int) (w : World) (hz : (Lit.int .i64 z).wf = true) :
    Calls Tryz.prog 42 #[.int .i64 z] w fun e w' => e = .returned (.string (kyF (pkN z 6))) ∧ w' = w := by
  have HP := hd (tpick_eq z 6 w (by omega) (by omega) hz)
  have hk := pkN_lt z (n := 6) (by omega)
  generalize pkN z 6 = k at HP hk ⊢
  obtain ⟨T, hT⟩ : ∃ T, T = kyF k := ⟨_, rfl⟩
  rw [← hT]
  go_enter Tryz.func42, Tryz.ntmps42
  go_wp2_with fail
  refine Calls.mono HP.out ?_
  rintro e w' ⟨rfl, hw'⟩
  have hw2 := hw'.symm
  subst hw2
  clear hw' HP
  by_cases h5 : k = 5
  · subst h5
    have HT := hd hT
    clear hT
    go_wp2_with fail
    go_loopw [4] (fun s wr => ∃ j : Nat, j ≤ 63 ∧ s = .string (kyq j) ∧ wr = w) (fun s _ => 64 - strLen s)
    case atStart => exact ⟨0, by omega, rfl, rfl⟩
    case round =>
      obtain ⟨j, hj, rfl, rfl⟩ := hrel
      have HS := hd (kyq_size j)
      obtain ⟨S, hS⟩ : ∃ S, S = kyq j := ⟨_, rfl⟩
      rw [← hS] at HS ⊢
      have HSE := hd hS
      clear hS
      by_cases hlt : j < 63
      · have hs : S.size < 64 := by rw [HS.out]; omega
        go_wp2_with fail
        go_roundw
        case rel => exact ⟨j + 1, by omega, by show _ = Value.string (kyq j ++ ⟨#[166]⟩); rw [← HSE.out], (by first | rfl | trivial)⟩
        case measure => show 64 - (S ++ ⟨#[166]⟩).size < 64 - S.size; rw [ByteArray.size_append, show (ByteArray.mk #[166]).size = 1 from rfl]; omega
      · have hs : ¬ S.size < 64 := by rw [HS.out]; omega
        have hj63 : Hid (j = 63) := by show j = 63; omega
        go_wp2_with fail
        go_ret
        refine ⟨?_, rfl⟩
        rw [HT.out, HSE.out, hj63.out]; rfl
  · have HT := hd hT
    clear hT
    obtain rfl | rfl | rfl | rfl | rfl : k = 0 ∨ k = 1 ∨ k = 2 ∨ k = 3 ∨ k = 4 := by omega
    all_goals
      go_wp2_with fail
      go_loopw [4] (fun s wr => s = .string T ∧ wr = w) (fun s _ => 64 - strLen s)
      case atStart => exact ⟨by rw [HT.out]; first | rfl | decide, rfl⟩
      case round =>
        obtain ⟨rfl, rfl⟩ := hrel
        go_wp2_with fail
        go_ret
        exact ⟨rfl, rfl⟩
/-- the value's bytes, as they come -/
def vX (z : Int) (j : Nat) : Nat := pkN (wrap64 (z.tdiv (1 + (j : Int) % 5) + (j : Int) * 31)) 256
theorem vX_lt (z : Int) (j : Nat) : vX z j < 256 := pkN_lt _ (by omega)
def vq (X : Nat → Nat) : Nat → ByteArray
  | 0 => ⟨#[]⟩
  | j + 1 => vq X j ++ str [X j]
theorem vq_size {X : Nat → Nat} (h : ∀ j, X j < 256) (j : Nat) : (vq X j).size = j := by
  induction j with
  | zero => rfl
  | succ j ih => show (vq X j ++ str [X j]).size = _; rw [ByteArray.size_append, ih, str_size (by intro y hy; simp at hy; have := h j; omega)]; rfl
def vlF (z : Int) : ByteArray :=
  if pkN z 9 = 8 then vq (vX z) (pkN (z.tdiv 9) 40 * 9) else if pkN z 9 = 6 then vq (vX z) (pkN (z.tdiv 9) 40) ++ str (en forg) else if pkN z 9 = 7 then vq (vX z) (pkN (z.tdiv 9) 40) ++ ⟨#[167, 167, 0, 0]⟩ else vq (vX z) (pkN (z.tdiv 9) 40)
theorem vlF_size (z : Int) : (vlF z).size ≤ 500 := by
  have h := pkN_lt (z.tdiv 9) (n := 40) (by omega)
  have hv := vq_size (vX_lt z)
  unfold vlF
  split
  · rw [hv]; omega
  split
  · rw [ByteArray.size_append, hv, str_size (en_bytR forg_rf)]; have := forg_len; omega
  split
  · rw [ByteArray.size_append, hv, show (ByteArray.mk #[167, 167, 0, 0]).size = 4 from rfl]; omega
  · rw [hv]; omega
set_option maxRecDepth 100000 in
set_option maxHeartbeats 2000000 in
theorem valueOf_eq (z : Int) (w : World) (hz : (Lit.int .i64 z).wf = true) :
    Calls Tryz.prog 43 #[.int .i64 z] w fun e w' => e = .returned (.string (vlF z)) ∧ Below w.heap.size w w' := by
  have HP := hd (tpick_eq z 9 w (by omega) (by omega) hz)
  obtain ⟨T, hT⟩ : ∃ T, T = vlF z := ⟨_, rfl⟩
  rw [← hT]
  have HT0 := hd hT
  clear hT
  unfold vlF at HT0
  have hk := pkN_lt z (n := 9) (by omega)
  generalize pkN z 9 = k at HP hk HT0
  have HN0 : Hid (∀ m, m = pkN (z.tdiv 9) 40 → m < 40) := fun m h => by rw [h]; exact pkN_lt _ (by omega)
  have hbz := bounds_i64 hz
  go_enter Tryz.func43, Tryz.ntmps43
  go_wp2_with fail
  refine Calls.mono HP.out ?_
  rintro e w' ⟨rfl, hw'⟩
  have hw2 := hw'.symm
  subst hw2
  clear hw' HP
  go_wp2_with fail
  refine Calls.mono (tpick_eq _ 40 w (by omega) (by omega) ?wf1) ?_
  case wf1 =>
    refine Go.WalkArith.wf_i64 ?_
    have h1 := Int.tdiv_nonneg (a := z) (b := 9)
    by_cases h0 : 0 ≤ z
    · rw [Int.tdiv_eq_ediv_of_nonneg h0]; omega
    · have h2 : z.tdiv 9 = -((-z) / 9) := by rw [← Int.tdiv_eq_ediv_of_nonneg (by omega), Int.neg_tdiv, Int.neg_neg]
      rw [h2]; omega
  rintro e w' ⟨rfl, hw'⟩
  have hw2 := hw'.symm
  subst hw2
  clear hw'
  obtain ⟨n, hn0⟩ : ∃ n, n = pkN (z.tdiv 9) 40 := ⟨_, rfl⟩
  have hn := HN0.out n hn0
  rw [← hn0] at HT0 ⊢
  clear hn0 HN0
  have HFV : Hid (fv forg = #[.int .i64 1, .int .u64 999999, .int .i64 1, .string ⟨#[97]⟩, .string ⟨#[102, 111, 114, 103, 101, 100]⟩, .int .u64 0, .int .i64 0, .int .i64 0, .int .i64 0, .string ⟨#[]⟩, .int .i64 0, .int .i64 0, .int .i64 0, .int .u32 0]) := rfl
  by_cases h8 : k = 8
  · subst h8
    obtain ⟨m, hmn⟩ : ∃ m : Nat, (n : Int) * 9 = (m : Int) := ⟨n * 9, by omega⟩
    have hm : m ≤ 351 := by omega
    have HMN : Hid (n * 9 = m) := by show n * 9 = m; omega
    go_wp2_with fail
    go_loopw [4, 6] (fun s i wr => ∃ (t : ByteArray) (j : Nat), j ≤ m ∧ i = .int .i64 (j : Int) ∧ s = .string t ∧ t.size = j ∧ t = vq (vX z) j ∧ Below w.heap.size w wr) (fun _ i _ => m - (intOf i).toNat)
    case atStart => exact ⟨_, 0, by omega, rfl, rfl, rfl, rfl, Below.refl _ _⟩
    case round =>
      obtain ⟨t, j, hj, rfl, rfl, ht, htv, hbr⟩ := hrel
      have HTV := hd htv
      clear htv
      have HT := hd ht
      have hts : t.size ≤ 400 := by omega
      have HBR := hd hbr
      have hsr := hbr.size
      clear ht hbr
      by_cases hlt : j < m
      · go_wp2_with fail
        refine Calls.mono (tpick_eq _ 256 wr (by omega) (by omega) ?wf2) ?_
        case wf2 => exact wrap64_wf _
        rintro e w' ⟨rfl, hw'⟩
        have hxe : pkN (wrap64 (z.tdiv (1 + (j : Int) % 5) + (j : Int) * 31)) 256 = vX z j := rfl
        rw [hxe]
        have hx := pkN_lt (wrap64 (z.tdiv (1 + (j : Int) % 5) + (j : Int) * 31)) (n := 256) (by omega)
        rw [hxe] at hx
        have HNX : Hid (vq (vX z) (j + 1) = vq (vX z) j ++ str [vX z j]) := rfl
        generalize vX z j = x at hx HNX ⊢
        clear hxe
        have hw2 := hw'.symm
        subst hw2
        clear hw'
        have hcv := conv_is (wr.alloc (.cells #[.int .u8 (x : Int)] 5)) (.slice (some ⟨wr.heap.size, 0, none⟩) 1 1) [x] (lit_isK .u8 256 wr #[.int .u8 (x : Int)] 5 [x] 1 rfl rfl (by simpa using hx) (by simp [maxLen]))
        have hst : (str [x]).size = 1 := str_size (by intro y hy; simp at hy; omega)
        have HST := hd hst
        have hss : (str [x]).size ≤ 1 := by omega
        clear hst
        generalize str [x] = S at hcv HST hss HNX ⊢
        go_wp2_with fail
        go_roundw
        case rel => first | exact ⟨t ++ S, j + 1, by omega, by go_num, rfl, by rw [ByteArray.size_append, HT.out, HST.out], by rw [HNX.out, ← HTV.out], HBR.out.alloc hsr _⟩ | ((repeat apply Exists.intro); exact ⟨⟨t ++ S, j + 1, by omega, by go_num, rfl, by rw [ByteArray.size_append, HT.out, HST.out], by rw [HNX.out, ← HTV.out], HBR.out.alloc hsr _⟩, rfl⟩)
        case measure => simp [intOf]; omega
      · obtain rfl : j = m := by omega
        go_wp2_with fail
        go_ret
        refine ⟨?_, HBR.out⟩
        have h1 := HT0.out
        rw [if_pos trivial, HMN.out] at h1
        rw [h1, ← HTV.out]; rfl
  · have g8 : ((k : Int) == 8) = false := by rw [beq_eq_false_iff_ne]; omega
    rw [if_neg h8] at HT0
    obtain ⟨m, hmn⟩ : ∃ m : Nat, n = m := ⟨n, rfl⟩
    subst hmn
    obtain ⟨m, hmn⟩ : ∃ m : Nat, m = n := ⟨n, rfl⟩
    subst hmn
    go_wp2_with fail
    go_loopw [4, 6] (fun s i wr => ∃ (t : ByteArray) (j : Nat), j ≤ m ∧ i = .int .i64 (j : Int) ∧ s = .string t ∧ t.size = j ∧ t = vq (vX z) j ∧ Below w.heap.size w wr) (fun _ i _ => m - (intOf i).toNat)
    case atStart => exact ⟨_, 0, by omega, rfl, rfl, rfl, rfl, Below.refl _ _⟩
    case round =>
      obtain ⟨t, j, hj, rfl, rfl, ht, htv, hbr⟩ := hrel
      have HTV := hd htv
      clear htv
      have HT := hd ht
      have hts : t.size ≤ 400 := by omega
      have HBR := hd hbr
      have hsr := hbr.size
      clear ht hbr
      by_cases hlt : j < m
      · go_wp2_with fail
        refine Calls.mono (tpick_eq _ 256 wr (by omega) (by omega) ?wf2) ?_
        case wf2 => exact wrap64_wf _
        rintro e w' ⟨rfl, hw'⟩
        have hxe : pkN (wrap64 (z.tdiv (1 + (j : Int) % 5) + (j : Int) * 31)) 256 = vX z j := rfl
        rw [hxe]
        have hx := pkN_lt (wrap64 (z.tdiv (1 + (j : Int) % 5) + (j : Int) * 31)) (n := 256) (by omega)
        rw [hxe] at hx
        have HNX : Hid (vq (vX z) (j + 1) = vq (vX z) j ++ str [vX z j]) := rfl
        generalize vX z j = x at hx HNX ⊢
        clear hxe
        have hw2 := hw'.symm
        subst hw2
        clear hw'
        have hcv := conv_is (wr.alloc (.cells #[.int .u8 (x : Int)] 5)) (.slice (some ⟨wr.heap.size, 0, none⟩) 1 1) [x] (lit_isK .u8 256 wr #[.int .u8 (x : Int)] 5 [x] 1 rfl rfl (by simpa using hx) (by simp [maxLen]))
        have hst : (str [x]).size = 1 := str_size (by intro y hy; simp at hy; omega)
        have HST := hd hst
        have hss : (str [x]).size ≤ 1 := by omega
        clear hst
        generalize str [x] = S at hcv HST hss HNX ⊢
        go_wp2_with fail
        go_roundw
        case rel => first | exact ⟨t ++ S, j + 1, by omega, by go_num, rfl, by rw [ByteArray.size_append, HT.out, HST.out], by rw [HNX.out, ← HTV.out], HBR.out.alloc hsr _⟩ | ((repeat apply Exists.intro); exact ⟨⟨t ++ S, j + 1, by omega, by go_num, rfl, by rw [ByteArray.size_append, HT.out, HST.out], by rw [HNX.out, ← HTV.out], HBR.out.alloc hsr _⟩, rfl⟩)
        case measure => simp [intOf]; omega
      · obtain rfl : j = m := by omega
        by_cases h6 : k = 6
        · subst h6
          have HEN := hd (encF_all forg_wf forg_rf wr)
          rw [HFV.out] at HEN
          go_wp2_with fail
          refine Calls.mono HEN.out ?_
          rintro e w3 ⟨u, rfl, j3, b3⟩
          obtain ⟨a3, c3, rfl, hc3⟩ := JK.shape (k := .u8) (M := 256) (E := 5) j3
          have hcv := conv_is w3 _ _ j3.isB
          have HSZ : Hid ((str (en forg)).size ≤ 100) := by
            show (str (en forg)).size ≤ 100
            rw [str_size (en_bytR forg_rf)]; exact forg_len
          have HB3 := hd b3
          have hss := HSZ.out
          clear b3 j3 HEN
          generalize str (en forg) = S at hcv HSZ hss HT0 ⊢
          go_wp2_with fail
          go_ret
          refine ⟨?_, HBR.out.trans (HB3.out.mono hsr)⟩
          have h1 := HT0.out
          rw [if_pos trivial] at h1
          rw [h1, ← HTV.out]; rfl
        · by_cases h7 : k = 7
          · subst h7
            go_wp2_with fail
            go_ret
            refine ⟨?_, HBR.out⟩
            have h1 := HT0.out
            rw [if_neg (by decide), if_pos trivial] at h1
            rw [h1, ← HTV.out]; rfl
          · have g6 : ((k : Int) == 6) = false := by rw [beq_eq_false_iff_ne]; omega
            have g7 : ((k : Int) == 7) = false := by rw [beq_eq_false_iff_ne]; omega
            have H6 := hd h6
            have H7 := hd h7
            go_wp2_with fail
            go_ret
            refine ⟨?_, HBR.out⟩
            have h1 := HT0.out
            rw [if_neg H6.out, if_neg H7.out] at h1
            rw [h1, ← HTV.out]; rfl
/-- a record of raw numbers -/
def rcQ (k y v : Int) (n : Nat) : Rec := if pkN k 4 = 0 then ⟨n, 2, kyF (pkN y 6), ByteArray.empty⟩ else ⟨n, 1, kyF (pkN y 6), vlF v⟩
theorem rcQ_may (k y v : Int) {n : Nat} (hn0 : n ≠ 0) (hn : n < 18446744073709551616) : MayR n (rcQ k y v n) := by
  have hk := kyF_size (pkN y 6)
  have hv := vlF_size v
  unfold rcQ
  split
  · exact ⟨rfl, ⟨hn, (by decide : (0 : Nat) < 18446744073709551616), (by decide : (0 : Nat) < 4294967296)⟩, del_rf hn0 hk, bd_small (f := ofR ⟨n, 2, kyF (pkN y 6), ByteArray.empty⟩) ⟨hn, (by decide : (0 : Nat) < 18446744073709551616), (by decide : (0 : Nat) < 4294967296)⟩ (del_rf hn0 hk) (.inr rfl) (by decide : 0 ≤ 500)⟩
  · exact ⟨rfl, ⟨hn, (by decide : (0 : Nat) < 18446744073709551616), (by decide : (0 : Nat) < 4294967296)⟩, put_rf hn0 hk (by omega), bd_small (f := ofR ⟨n, 1, kyF (pkN y 6), vlF v⟩) ⟨hn, (by decide : (0 : Nat) < 18446744073709551616), (by decide : (0 : Nat) < 4294967296)⟩ (put_rf hn0 hk (by omega)) (.inl rfl) hv⟩
set_option maxRecDepth 100000 in
set_option maxHeartbeats 2000000 in
theorem recordOf_eq (k y v m : Int) (n : Nat) (w : World) (hk : (Lit.int .i64 k).wf = true) (hy : (Lit.int .i64 y).wf = true) (hv : (Lit.int .i64 v).wf = true) :
    Calls Tryz.prog 22 #[.agg #[.int .i64 k, .int .i64 y, .int .i64 v, .int .i64 m], .int .u64 (n : Int)] w fun e w' => e = .returned (.agg #[.int .u64 (n : Int), .int .i64 (rcQ k y v n).kind, .string (rcQ k y v n).key, .string (rcQ k y v n).val]) ∧ Below w.heap.size w w' := by
  have hmx : Tryz.prog.follows .mixedOrders = true := by kernel_rfl
  have HP : Hid (∀ x, Calls Tryz.prog 23 #[.int .i64 k, .int .i64 4] x fun e w' => e = .returned (.int .i64 (pkN k 4 : Int)) ∧ w' = x) := fun x => tpick_eq k 4 x (by omega) (by omega) hk
  have HKY : Hid (∀ x, Calls Tryz.prog 42 #[.int .i64 y] x fun e w' => e = .returned (.string (kyF (pkN y 6))) ∧ w' = x) := fun x => keyOf_eq y x hy
  have HVL : Hid (∀ x, Calls Tryz.prog 43 #[.int .i64 v] x fun e w' => e = .returned (.string (vlF v)) ∧ Below x.heap.size x w') := fun x => valueOf_eq v x hv
  unfold rcQ
  generalize pkN k 4 = c at HP ⊢
  generalize kyF (pkN y 6) = t1 at HKY ⊢
  generalize vlF v = t2 at HVL ⊢
  go_enter Tryz.func22, Tryz.ntmps22
  go_wp2_with fail
  refine Calls.mono (HP.out _) ?_
  rintro e w' ⟨rfl, hw'⟩
  obtain ⟨W0, hW0⟩ : ∃ W0, W0 = (w.alloc (.cells #[.int .i64 k, .int .i64 y, .int .i64 v, .int .i64 m] 75)).alloc (.cells #[.int .u64 0, .int .i64 0, .string ⟨#[]⟩, .string ⟨#[]⟩] 38) := ⟨_, rfl⟩
  obtain ⟨N, hN⟩ : ∃ N, N = w.heap.size := ⟨_, rfl⟩
  have hs0 : W0.heap.size = N + 2 := by rw [hW0, hN]; simp
  have HB0 : Hid (Below w.heap.size w W0) := by rw [hW0]; exact ((Below.refl _ _).alloc (Nat.le_refl _) _).alloc (by simp) _
  have BR : Hid (Blk W0 N 75 [.int .i64 k, .int .i64 y, .int .i64 v, .int .i64 m]) := by rw [hW0, hN]; exact (Blk.new w _ _).alloc _
  have BD : Hid (Blk W0 (N + 1) 38 [.int .u64 0, .int .i64 0, .string ⟨#[]⟩, .string ⟨#[]⟩]) := by
    have := Blk.new (w.alloc (.cells #[.int .i64 k, .int .i64 y, .int .i64 v, .int .i64 m] 75)) 38 [.int .u64 0, .int .i64 0, .string ⟨#[]⟩, .string ⟨#[]⟩]
    rw [World.size_alloc, ← hN] at this
    rw [hW0]; exact this
  rw [hw', ← hW0]
  clear hw' HP hW0
  have HN := hd hN
  rw [← hN]
  clear hN
  have r1 : W0.cell? ⟨N, 1, none⟩ = some (.int .i64 y) := BR.out.cell 1 _ rfl
  have r2 : W0.cell? ⟨N, 2, none⟩ = some (.int .i64 v) := BR.out.cell 2 _ rfl
  by_cases hc0 : c = 0
  · subst hc0
    have d0 := BD.out.cell 0 _ rfl
    have d1 := BD.out.cell 1 _ rfl
    have d2 := BD.out.cell 2 _ rfl
    have d3 := BD.out.cell 3 _ rfl
    have e0 := BD.out.frozen 0
    have e1 := BD.out.frozen 1
    have e2 := BD.out.frozen 2
    have e3 := BD.out.frozen 3
    go_wp2_with fail
    refine Calls.mono (HKY.out W0) ?_
    rintro e w' ⟨rfl, hw'⟩
    have hw2 := hw'.symm
    subst hw2
    clear hw'
    go_wp2_with fail
    have HF : Hid (Blk (setL W0 (N + 1) 0 [.int .u64 (n : Int), .int .i64 2, .string t1, .string ⟨#[]⟩]) (N + 1) 38 [.int .u64 (n : Int), .int .i64 2, .string t1, .string ⟨#[]⟩]) := setL_blk [.int .u64 (n : Int), .int .i64 2, .string t1, .string ⟨#[]⟩] W0 0 [] [.int .u64 0, .int .i64 0, .string ⟨#[]⟩, .string ⟨#[]⟩] rfl rfl BD.out
    refine bodyPost_ret (results_cell_row rfl _ _ (N + 1) 38 #[.int .u64 (n : Int), .int .i64 2, .string t1, .string ⟨#[]⟩] (0, 0) _ rfl HF.out Tryz.underlying38 rfl (by kernel_rfl)) rfl ?_
    refine ⟨rfl, ?_⟩
    rw [HN.out] at *
    exact (((HB0.out.setCell (p := ⟨w.heap.size + 1, 0, none⟩) (by show w.heap.size ≤ w.heap.size + 1; omega) _).setCell (p := ⟨w.heap.size + 1, 1, none⟩) (by show w.heap.size ≤ w.heap.size + 1; omega) _).setCell (p := ⟨w.heap.size + 1, 2, none⟩) (by show w.heap.size ≤ w.heap.size + 1; omega) _).setCell (p := ⟨w.heap.size + 1, 3, none⟩) (by show w.heap.size ≤ w.heap.size + 1; omega) _
  · have hcf : ((c : Int) == 0) = false := by rw [beq_eq_false_iff_ne]; omega
    go_wp2_with fail
    go_region_with (first
      | (go_at_call 42; refine Calls.mono (HKY.out _) ?_; rintro e w' ⟨rfl, rfl⟩)
      | (go_at_call 43; refine Calls.mono (HVL.out _) ?_; rintro e w5 ⟨rfl, hb5⟩; have q1 : w5.cell? ⟨N, 1, none⟩ = some (.int .i64 y) := (hb5.cell (p := ⟨N, 1, none⟩) (by show N < W0.heap.size; omega)).trans r1; have q2 : w5.cell? ⟨N, 2, none⟩ = some (.int .i64 v) := (hb5.cell (p := ⟨N, 2, none⟩) (by show N < W0.heap.size; omega)).trans r2; have bd5 := BD.out.below (W' := w5) (n := W0.heap.size) (by omega) ⟨hb5.os, hb5.tape, hb5.output, hb5.size, hb5.block⟩; have d0 := bd5.cell 0 _ rfl; have d1 := bd5.cell 1 _ rfl; have d2 := bd5.cell 2 _ rfl; have d3 := bd5.cell 3 _ rfl; have e0 := bd5.frozen 0; have e1 := bd5.frozen 1; have e2 := bd5.frozen 2; have e3 := bd5.frozen 3; have HBD5 := hd bd5; have HB5 := hd hb5; clear bd5 hb5))
    all_goals
      go_wp2_with fail
      have HF : Hid (Blk (setL w5 (N + 1) 0 [.int .u64 (n : Int), .int .i64 1, .string t1, .string t2]) (N + 1) 38 [.int .u64 (n : Int), .int .i64 1, .string t1, .string t2]) := setL_blk [.int .u64 (n : Int), .int .i64 1, .string t1, .string t2] w5 0 [] [.int .u64 0, .int .i64 0, .string ⟨#[]⟩, .string ⟨#[]⟩] rfl rfl HBD5.out
      refine bodyPost_ret (results_cell_row rfl _ _ (N + 1) 38 #[.int .u64 (n : Int), .int .i64 1, .string t1, .string t2] (0, 0) _ rfl HF.out Tryz.underlying38 rfl (by kernel_rfl)) rfl ?_
      refine ⟨rfl, ?_⟩
      have hb5 : Below W0.heap.size W0 w5 := ⟨HB5.out.os, HB5.out.tape, HB5.out.output, HB5.out.size, HB5.out.block⟩
      have hb6 := HB0.out.trans (hb5.mono HB0.out.size)
      rw [HN.out]
      exact (((hb6.setCell (p := ⟨w.heap.size + 1, 0, none⟩) (by show w.heap.size ≤ w.heap.size + 1; omega) _).setCell (p := ⟨w.heap.size + 1, 1, none⟩) (by show w.heap.size ≤ w.heap.size + 1; omega) _).setCell (p := ⟨w.heap.size + 1, 2, none⟩) (by show w.heap.size ≤ w.heap.size + 1; omega) _).setCell (p := ⟨w.heap.size + 1, 3, none⟩) (by show w.heap.size ≤ w.heap.size + 1; omega) _
end Vt
end Go.Proofs.YtolddolfpnkndaaGreat
namespace Go.Proofs.YtolddolfpnkndaaGreat
namespace Vt
theorem dcd_lead {m : List Nat} (hb : Byt m) (h : (dcd m).2.2 = 0) : m.getD 0 0 = 167 ∧ m ≠ [] := by
  obtain ⟨_, _, e3, e4, e5⟩ := en_dcd hb h
  have hp := en_pos (dcd m).1
  have e := congrArg (fun q => q.getD 0 0) e5
  rw [en_head] at e
  constructor
  · rw [← e, List.getD_eq_getElem?_getD, List.getD_eq_getElem?_getD, List.getElem?_take, if_pos (by omega)]
  · rintro rfl; simp at e4; omega
/-- within a frame there is no lead byte -/
theorem dcd_in {m : List Nat} (hb : Byt m) (h : (dcd m).2.2 = 0) {j : Nat} (h1 : 1 ≤ j) (h2 : j < (dcd m).2.1) : m.getD j 0 ≠ 167 := by
  obtain ⟨_, _, e3, e4, e5⟩ := en_dcd hb h
  have e := congrArg (fun q => q.getD j 0) e5
  have h3 := en_no (f := (dcd m).1) (j := j) h1 (by omega)
  rw [← e, List.getD_eq_getElem?_getD, List.getElem?_take, if_pos h2, ← List.getD_eq_getElem?_getD] at h3
  exact h3
theorem getD_drop0 (l : List Nat) (i : Nat) : (l.drop i).getD 0 0 = l.getD i 0 := by
  rw [List.getD_eq_getElem?_getD, List.getD_eq_getElem?_getD, List.getElem?_drop, Nat.add_zero]
/-- a frame's place, its length, the frame -/
abbrev Lc := Nat × Nat × Fr
open Classical in
/-- all frames of the bytes l, the first of which stands at at_: every place is asked -/
noncomputable def locs (at_ : Nat) : List Nat → List Lc
  | [] => []
  | x :: r => if (dcd (x :: r)).2.2 = 0 then (at_, (dcd (x :: r)).2.1, (dcd (x :: r)).1) :: locs (at_ + 1) r else locs (at_ + 1) r
theorem locs_nil (at_ : Nat) : locs at_ [] = [] := rfl
theorem locs_err {at_ : Nat} {l : List Nat} (h : (dcd l).2.2 ≠ 0) : locs at_ l = locs (at_ + 1) (l.drop 1) := by
  cases l with
  | nil => rfl
  | cons x r => rw [locs, if_neg h]; rfl
theorem locs_skip (j : Nat) : ∀ (at_ : Nat) (l : List Nat), (∀ i, i < j → (dcd (l.drop i)).2.2 ≠ 0) → locs at_ l = locs (at_ + j) (l.drop j) := by
  induction j with
  | zero => intro at_ l _; rw [List.drop_zero, Nat.add_zero]
  | succ j ih =>
    intro at_ l h
    have h0 := h 0 (by omega)
    rw [List.drop_zero] at h0
    rw [locs_err h0, ih (at_ + 1) (l.drop 1) (fun i hi => by rw [List.drop_drop]; have := h (1 + i) (by omega); exact this), List.drop_drop]
    rw [show at_ + 1 + j = at_ + (j + 1) by omega, show 1 + j = j + 1 by omega]
theorem nx_lt {l : List Nat} {i : Nat} (h : i < nx l) : l.getD i 0 ≠ 167 := by
  have hl := nx_le l
  have h2 := List.not_of_lt_findIdx h
  rw [List.getD_eq_getElem?_getD, List.getElem?_eq_getElem (by omega)]
  simpa using h2
theorem locs_next {l : List Nat} (hb : Byt l) (at_ : Nat) : locs at_ l = locs (at_ + nx l) (l.drop (nx l)) := by
  refine locs_skip _ _ _ fun i hi h => ?_
  have h1 := (dcd_lead (byt_drop hb i) h).1
  rw [getD_drop0] at h1
  exact nx_lt hi h1
theorem locs_ok {l : List Nat} (hb : Byt l) (at_ : Nat) (h : (dcd l).2.2 = 0) : locs at_ l = (at_, (dcd l).2.1, (dcd l).1) :: locs (at_ + (dcd l).2.1) (l.drop (dcd l).2.1) := by
  obtain ⟨_, _, e3, e4, e5⟩ := en_dcd hb h
  have hp := en_pos (dcd l).1
  cases l with
  | nil => simp at e4; omega
  | cons x r =>
    rw [locs, if_pos h]
    congr 1
    have := locs_skip ((dcd (x :: r)).2.1 - 1) (at_ + 1) r (fun i hi hc => by
      have h1 := (dcd_lead (byt_drop (l := r) (fun y hy => hb y (List.mem_cons_of_mem _ hy)) i) hc).1
      rw [getD_drop0] at h1
      have h2 := dcd_in hb h (j := i + 1) (by omega) (by omega)
      rw [List.getD_cons_succ] at h2
      exact h2 h1)
    rw [this, show at_ + 1 + ((dcd (x :: r)).2.1 - 1) = at_ + (dcd (x :: r)).2.1 by omega]
    congr 1
    obtain ⟨m, hm⟩ : ∃ m, (dcd (x :: r)).2.1 = m + 1 := ⟨(dcd (x :: r)).2.1 - 1, by omega⟩
    rw [hm, List.drop_succ_cons, Nat.add_sub_cancel]
/-- what is laid down is found -/
theorem locs_en {f : Fr} (hw : f.Wf) (h : rf f = 0) {r : List Nat} (hb : Byt (en f ++ r)) (at_ : Nat) : locs at_ (en f ++ r) = (at_, (en f).length, f) :: locs (at_ + (en f).length) r := by
  have e := dcd_en hw h r
  have := locs_ok hb at_ (by rw [e])
  rw [this, e]
  simp only
  rw [List.drop_left' rfl]
/-- a found frame stands in the bytes -/
theorem locs_mem {l : List Nat} (hb : Byt l) : ∀ (at_ : Nat) (x : Lc), x ∈ locs at_ l → at_ ≤ x.1 ∧ x.1 + x.2.1 ≤ at_ + l.length ∧ dcd (l.drop (x.1 - at_)) = (x.2.2, x.2.1, 0) ∧ 9 ≤ x.2.1 ∧ rf x.2.2 = 0 ∧ x.2.2.Wf := by
  induction l with
  | nil => intro at_ x hx; rw [locs] at hx; cases hx
  | cons y r ih =>
    intro at_ x hx
    have hbr : Byt r := fun z hz => hb z (List.mem_cons_of_mem _ hz)
    have go : x ∈ locs (at_ + 1) r → at_ ≤ x.1 ∧ x.1 + x.2.1 ≤ at_ + (y :: r).length ∧ dcd ((y :: r).drop (x.1 - at_)) = (x.2.2, x.2.1, 0) ∧ 9 ≤ x.2.1 ∧ rf x.2.2 = 0 ∧ x.2.2.Wf := by
      intro hx
      obtain ⟨h1, h2, h3, h4⟩ := ih hbr (at_ + 1) x hx
      refine ⟨by omega, by rw [List.length_cons]; omega, ?_, h4⟩
      rw [show x.1 - at_ = (x.1 - (at_ + 1)) + 1 by omega, List.drop_succ_cons]; exact h3
    rw [locs] at hx
    split at hx
    · rename_i h
      rcases List.mem_cons.1 hx with rfl | hx
      · obtain ⟨e1, e2, e3, e4, e5⟩ := en_dcd hb h
        have hp := en_pos (dcd (y :: r)).1
        refine ⟨Nat.le_refl _, by simp only; omega, ?_, by simp only; omega, e1, e2⟩
        simp only
        rw [Nat.sub_self, List.drop_zero]
        exact Prod.ext rfl (Prod.ext rfl h)
      · exact go hx
    · exact go hx
/-- an extent: junk or not, the place, the length -/
abbrev Ex := Bool × Int × Int
/-- a run of junk, unless it is empty -/
def jk1 (a b : Nat) : List Ex := if a = b then [] else [(true, (a : Int), (b : Int) - (a : Int))]
/-- one more frame -/
def exS (s : List Ex × Nat) (x : Lc) : List Ex × Nat := (s.1 ++ jk1 s.2 x.1 ++ [(false, (x.1 : Int), (x.2.1 : Int))], x.1 + x.2.1)
def exF (pre : List Lc) : List Ex × Nat := pre.foldl exS ([], 0)
/-- the extents of some bytes -/
noncomputable def exts (l : List Nat) : List Ex := (exF (locs 0 l)).1 ++ jk1 (exF (locs 0 l)).2 l.length
/-- the extents from a place on -/
def exR : Nat → List Lc → Nat → List Ex
  | e, [], N => jk1 e N
  | e, x :: r, N => jk1 e x.1 ++ (false, (x.1 : Int), (x.2.1 : Int)) :: exR (x.1 + x.2.1) r N
/-- the frames alone -/
def cln (l : List Nat) (pre : List Lc) : List Nat := (pre.map fun x => (l.drop x.1).take x.2.1).flatten
theorem locs_len {l : List Nat} (hb : Byt l) : ∀ n, l.length ≤ n → ∀ at_, 9 * (locs at_ l).length ≤ l.length := by
  intro n
  induction n generalizing l with
  | zero =>
    intro h at_
    obtain rfl : l = [] := List.length_eq_zero_iff.1 (by omega)
    simp [locs]
  | succ n ih =>
    intro h at_
    by_cases hne : l = []
    · subst hne; simp [locs]
    · have hlen : 1 ≤ l.length := by cases l with
        | nil => exact absurd rfl hne
        | cons x r => simp
      by_cases he : (dcd l).2.2 = 0
      · obtain ⟨_, _, e3, e4, _⟩ := en_dcd hb he
        have hp := en_pos (dcd l).1
        rw [locs_ok hb at_ he, List.length_cons]
        have := ih (l := l.drop (dcd l).2.1) (byt_drop hb _) (by rw [List.length_drop]; omega) (at_ + (dcd l).2.1)
        rw [List.length_drop] at this
        omega
      · rw [locs_err he]
        have := ih (l := l.drop 1) (byt_drop hb _) (by rw [List.length_drop]; omega) (at_ + 1)
        rw [List.length_drop] at this
        omega
end Vt
end Go.Proofs.YtolddolfpnkndaaGreat
