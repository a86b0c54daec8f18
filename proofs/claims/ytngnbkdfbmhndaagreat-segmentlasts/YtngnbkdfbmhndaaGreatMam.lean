/-
  THE WALKS OF A WRITER'S begin, lay, fits.
  THE WALKS OF slices.Grow (of nil) and slices.Concat of lists of bytes: one row of the call's own, all lists one behind the other.
  PLAIN MATHEMATICS OF ESCAPED BYTES: 'wr' (the escaped bytes of plain ones), 'fs' (the plain byte at the front), 'told' (what is told, with places), 'bad' (the first that cannot stand). No program.
-/
import Derived.Test.YtngnbkdfbmhndaaGreatMal
import Derived.Test.YtngnbkdfbmhndaaGreatMab
import Derived.Lib.AppendZeros
import Derived.Test.YtngnbkdfbmhndaaGreatMaa
namespace Go.Proofs.YtngnbkdfbmhndaaGreat
open Go.RowKit Go.Maps Go.Sort
namespace Sg
open Vt Dk
attribute [local go_sem ↓] append_hid
theorem Nw.join {w w1 w2 : World} {b d : Nat} {O O1 : Nat → Prop} {W' : Ws} {S' : Ds} (h2 : Tr (fun x => O x ∨ x = b) w w1) (h3 : ∀ x, O1 x → O x ∨ w.heap.size ≤ x) (g : Nw O1 w1 b d W' S' w2) : Nw O w b d W' S' w2 := by
  obtain ⟨O2, g1, g2, g3⟩ := g
  refine ⟨O2, g1, h2.trans g2 fun x q => ?_, fun x q => ?_⟩
  · rcases q with q | q
    · exact (h3 x q).imp .inl id
    · exact .inl (.inr q)
  · rcases g3 x q with q | q
    · exact h3 x q
    · exact .inr (Nat.le_trans h2.size q)
theorem syR_num (W : Ws) (S : Ds) : (syR W S).2.1.num = W.num ∧ (syR W S).2.1.laid = W.laid ∧ (syR W S).2.1.lim = W.lim ∧ (syR W S).2.1.evy = W.evy := by
  unfold syR shut
  split
  · exact ⟨rfl, rfl, rfl, rfl⟩
  · split
    · exact ⟨rfl, rfl, rfl, rfl⟩
    · split <;> exact ⟨rfl, rfl, rfl, rfl⟩
set_option maxRecDepth 100000 in
set_option maxHeartbeats 1000000 in
theorem begin_is (w : World) (b d : Nat) (O : Nat → Prop) (W : Ws) (S : Ds) (h : WK w b d O W S) (ha : S.acts < 2000000) (hn : W.uns ≠ 0 → Nam.Nu W.num) :
    Calls Tryz.prog 31 #[.pointer (some ⟨b, 0, none⟩)] w fun e w' => e = .returned (.int .i64 ((bgR W S).1 : Int)) ∧ Nw O w b d (bgR W S).2.1 (bgR W S).2.2 w' := by
  have HS := hd (asyR_is w b d O W S h (by omega) hn)
  obtain ⟨r, W1, S1, hR⟩ : ∃ r W1 S1, syR W S = (r, W1, S1) := ⟨_, _, _, rfl⟩
  have hac : S1.acts ≤ S.acts + 1 := by have := syR_acts W S; rw [hR] at this; exact this
  have hbg : bgR W S = if r ≠ 0 then (r, W1, S1) else ((create S1 (nmS (fr S1.fs))).1, if (create S1 (nmS (fr S1.fs))).1 = 0 then { W1 with num := fr S1.fs, laid := 0 } else shut (create S1 (nmS (fr S1.fs))).1 W1, (create S1 (nmS (fr S1.fs))).2) := by
    unfold bgR; rw [hR]
  rw [hR] at HS
  rw [hbg]
  clear hbg hn h
  by_cases h0 : r = 0
  · subst h0
    rw [if_neg (by omega)]
    obtain ⟨n, hnn⟩ : ∃ n, n = fr S1.fs := ⟨_, rfl⟩
    obtain ⟨r, hr⟩ : ∃ r, r = (create S1 (nmS n)).1 := ⟨_, rfl⟩
    obtain ⟨S2, hS2⟩ : ∃ S2, S2 = (create S1 (nmS n)).2 := ⟨_, rfl⟩
    rw [← hnn, ← hr, ← hS2]
    go_enter Tryz.func31, Tryz.ntmps31
    go_wp2_with fail
    refine Calls.mono HS.out ?_
    rintro e w1 ⟨rfl, hN⟩
    obtain ⟨O1, hK1, hT1, hO1⟩ := hN
    have c0 := hK1.2.1.cell 0 _ rfl
    have c4 := hK1.2.1.cell 4 _ rfl
    have c5 := hK1.2.1.cell 5 _ rfl
    have HK1 := hd hK1
    have HT1 := hd hT1
    have HO1 := hd hO1
    have hcnt : S1.fs.length ≤ S1.acts + 200 := hK1.1.good.cnt
    have hNu : Nam.Nu n := by
      have := fr_ok S1.fs
      rw [hnn]
      exact ⟨this.1, by have := this.2.1; unfold nms at this; rw [List.length_map] at this; omega⟩
    have HAS : Hid (∀ w3, Below w1.heap.size w1 w3 → WK w3 b d O1 W1 S1 → Calls Tryz.prog 57 #[.pointer (some ⟨b, 0, none⟩), .func (.func 58) #[.pointer (some ⟨d, 0, none⟩)] #[], .int .u32 (n : Int)] w3 fun e w' => e = .returned (.int .i64 (r : Int)) ∧ Nw O1 w3 b d (shut r W1) S2 w') := by
      intro w3 _ hk
      rw [hr, hS2]
      exact ask_is w3 b d O1 W1 S1 _ 58 #[.pointer (some ⟨d, 0, none⟩)] #[] _ n hNu (create_lt _ _) hk cf_create fun w5 _ hk => create_is w5 d O1 S1 (nmS n) hk.1 (by omega)
    have HFN : Hid (∀ w3 w4, Tr (fun x => O x ∨ x = b) w w1 → Below w1.heap.size w1 w3 → (∀ x, O1 x → O x ∨ w.heap.size ≤ x) → Nw O1 w3 b d (shut r W1) S2 w4 → Nw O w b d (shut r W1) S2 w4 ∧ (r = 0 → w4.cell? ⟨b, 4, none⟩ = some (.int .u32 (W1.num : Int)) ∧ w4.cell? ⟨b, 5, none⟩ = some (.int .i64 (W1.laid : Int)) ∧ w4.frozen? ⟨b, 4, none⟩ = false ∧ w4.frozen? ⟨b, 5, none⟩ = false ∧ b < w4.heap.size ∧ Nw O w b d { W1 with num := n, laid := 0 } S2 ((w4.setCell ⟨b, 4, none⟩ (.int .u32 (n : Int))).setCell ⟨b, 5, none⟩ (.int .i64 0)))) := by
      intro w3 w4 t1 b3 o1 q
      have hA : ∀ {W' S' w'}, Nw O1 w3 b d W' S' w' → Nw O w b d W' S' w' := by
        rintro W' S' w' ⟨O2, p1, p2, p3⟩
        refine ⟨O2, p1, (t1.trans (Tr.ofB b3 _) fun x q => .inl q).trans p2 fun x q => ?_, fun x q => ?_⟩
        · rcases q with q | q
          · exact (o1 x q).imp .inl id
          · exact .inl (.inr q)
        · rcases p3 x q with q | q
          · exact o1 x q
          · exact .inr (Nat.le_trans t1.size (Nat.le_trans b3.size q))
      refine ⟨hA q, fun e => ?_⟩
      subst e
      rw [show shut 0 W1 = W1 from if_neg (by omega)] at q
      obtain ⟨O2, hk, hk2, hk3⟩ := q
      exact ⟨hk.2.1.cell 4 _ rfl, hk.2.1.cell 5 _ rfl, hk.2.1.frozen 4, hk.2.1.frozen 5, hk.2.1.lt, hA (Nw.trans ⟨O2, hk, hk2, hk3⟩ fun O3 q => q.write (W' := { W1 with num := n, laid := 0 }) ((Tr.set (O := fun x => x = b) rfl _).trans (Tr.set (O := fun x => x = b) rfl _) fun x q => .inl q) (Blk.set (j := 5) (Blk.set (j := 4) q.2.1 (.int .u32 (n : Int))) (.int .i64 0)))⟩
    obtain ⟨R, hR1, hR2⟩ := pick_is w1 d O1 S1 hK1.1 (by omega) (fun e w' => e = .returned (.tuple #[.int .u32 (n : Int), .int .i64 0]) ∧ Below w1.heap.size w1 w') (fun w' hb => ⟨by rw [hnn], hb⟩)
    have HR2 := hd hR2
    clear hK1 hT1 hO1 hR2 hr hS2 hnn hcnt hNu
    go_wp2_with fail
    refine Calls.mono hR1 ?_
    intro e w2 he
    obtain ⟨v, rfl, hb2, hFr⟩ := HR2.out e w2 he
    go_wp2_with fail
    refine Calls.mono hFr ?_
    rintro e w3 ⟨rfl, hb3⟩
    have hK3 := HK1.out.below hb3
    have e0 := hK3.2.1.cell 0 _ rfl
    have HK3 := hd hK3
    have HB3 := hd hb3
    clear hK3 hb3 hb2 hFr c0 c4 c5
    go_wp2_with fail
    refine Calls.mono (HAS.out w3 HB3.out HK3.out) ?_
    rintro e w4 ⟨rfl, hN4⟩
    obtain ⟨hN4', hz4⟩ := HFN.out w3 w4 HT1.out HB3.out HO1.out hN4
    have HN4 := hd hN4'
    clear hN4 hN4'
    by_cases hz : r = 0
    · obtain ⟨d4, d5, g4, g5, hl4, hs1⟩ := hz4 hz
      have HQ1 := hd hs1
      subst hz
      clear hz4 hs1
      go_wp2_with fail
      go_ret
      exact ⟨rfl, HQ1.out⟩
    · have z1 : ¬ ((r : Int) = 0) := by omega
      have HZ1 := hd hz
      clear hz hz4
      go_wp2_with fail
      go_ret
      exact ⟨rfl, HN4.out⟩
  · have z : ¬ ((r : Int) = 0) := by omega
    have HZ := hd h0
    rw [if_pos h0]
    clear h0
    go_enter Tryz.func31, Tryz.ntmps31
    go_wp2_with fail
    refine Calls.mono HS.out ?_
    rintro e w1 ⟨rfl, hN⟩
    have HN := hd hN
    clear hN
    go_wp2_with fail
    go_ret
    exact ⟨rfl, HN.out⟩
/-! ### lay -/
def ly (W : Ws) (S : Ds) (l : List Nat) : Nat × Ws × Ds :=
  if (append S (nmS W.num) l).1 ≠ 0 then ((append S (nmS W.num) l).1, shut (append S (nmS W.num) l).1 W, (append S (nmS W.num) l).2)
  else if W.evy = 0 ∨ W.uns + 1 < W.evy then (0, { W with laid := W.laid + l.length, uns := W.uns + 1 }, (append S (nmS W.num) l).2)
  else syR { W with laid := W.laid + l.length, uns := W.uns + 1 } (append S (nmS W.num) l).2
theorem append_acts (S : Ds) (s : ByteArray) (l : List Nat) : (append S s l).2.acts ≤ S.acts + 1 := by
  unfold append actOf run gAppend tick
  split
  · exact Nat.le_succ _
  · split
    · cases S.done <;> simp
    · split <;> simp
set_option maxRecDepth 100000 in
theorem with_is (w : World) (a : Option Addr) (n c : Nat) (f : FuncId) (A C : Array Value) : Calls Tryz.prog 59 #[.slice a n c, .func (.func f) A C] w fun e w' => e = .returned (.func (.func 89) #[] #[.pointer (some ⟨w.heap.size + 1, 0, none⟩), .pointer (some ⟨w.heap.size, 0, none⟩)]) ∧ w' = (w.alloc (.cells #[.slice a n c] 44)).alloc (.cells #[.func (.func f) A C] 128) := by
  go_enter Tryz.func59, Tryz.ntmps59
  go_wp2_with fail
  go_ret
  exact ⟨rfl, rfl⟩
set_option maxRecDepth 100000 in
theorem with1_is (w : World) (x y d : Nat) (O : Nat → Prop) (S : Ds) (s : ByteArray) (a : Option Addr) (c : Nat) (l : List Nat) (h : DK w d O S) (ha : S.acts < 4611686018427387904) (hx : Blk w x 44 [.slice a l.length c]) (hy : Blk w y 128 [.func (.func 60) #[.pointer (some ⟨d, 0, none⟩)] #[]]) (hI : IsB w (.slice a l.length c) l) (hn : l ≠ [] → ∀ b off n' c', Value.slice a l.length c = .slice (some ⟨b, off, none⟩) n' c' → b ≠ d) :
    Calls Tryz.prog 89 #[.string s, .pointer (some ⟨y, 0, none⟩), .pointer (some ⟨x, 0, none⟩)] w fun e w' => e = .returned (.int .i64 ((append S s l).1 : Int)) ∧ Nx O w d (append S s l).2 w' := by
  have HA := hd (append_is w d O S s (.slice a l.length c) l h ha hI hn)
  have c0 := hx.cell 0 _ rfl
  have c1 := hy.cell 0 _ rfl
  have hcf := cf_append
  clear hx hy hI hn h
  go_enter Tryz.func89, Tryz.ntmps89
  go_wp2_with fail
  refine Calls.mono HA.out ?_
  rintro e w2 ⟨rfl, hN⟩
  have HN := hd hN
  clear hN
  go_wp2_with fail
  go_ret
  exact ⟨rfl, HN.out⟩
set_option maxRecDepth 100000 in
set_option maxHeartbeats 1000000 in
theorem lay_is (w : World) (b d : Nat) (O : Nat → Prop) (W : Ws) (S : Ds) (ua : Option Addr) (c : Nat) (l : List Nat) (h : WK w b d O W S) (ha : S.acts < 2000000) (hnu : Nam.Nu W.num) (hI : IsB w (.slice ua l.length c) l) (hn : l ≠ [] → ∀ g off n' c', Value.slice ua l.length c = .slice (some ⟨g, off, none⟩) n' c' → g ≠ d) (hl1 : W.laid < 1000000000) (hl2 : l.length < 1000000000) (hl3 : W.uns < 1000000000) :
    Calls Tryz.prog 32 #[.pointer (some ⟨b, 0, none⟩), .slice ua l.length c] w fun e w' => e = .returned (.int .i64 ((ly W S l).1 : Int)) ∧ Nw O w b d (ly W S l).2.1 (ly W S l).2.2 w' := by
  obtain ⟨r, hr⟩ : ∃ r, r = (append S (nmS W.num) l).1 := ⟨_, rfl⟩
  obtain ⟨S2, hS2⟩ : ∃ S2, S2 = (append S (nmS W.num) l).2 := ⟨_, rfl⟩
  have hac : S2.acts ≤ S.acts + 1 := by rw [hS2]; exact append_acts _ _ _
  have hly : ly W S l = if r ≠ 0 then (r, shut r W, S2) else if W.evy = 0 ∨ W.uns + 1 < W.evy then (0, { W with laid := W.laid + l.length, uns := W.uns + 1 }, S2) else syR { W with laid := W.laid + l.length, uns := W.uns + 1 } S2 := by unfold ly; rw [hr, hS2]
  obtain ⟨w1, hw1⟩ : ∃ w1, w1 = (w.drew.alloc (.cells #[.slice ua l.length c] 44)).alloc (.cells #[.func (.func 60) #[.pointer (some ⟨d, 0, none⟩)] #[]] 128) := ⟨_, rfl⟩
  have hb1 : Below w.heap.size w w1 := by
    rw [hw1]
    have e0 : Below w.heap.size w w.drew := ⟨rfl, rfl, rfl, Nat.le_refl _, fun _ _ => rfl⟩
    exact (e0.alloc (Nat.le_refl _) _).alloc (by show w.heap.size ≤ (w.drew.alloc _).heap.size; rw [alloc_size]; exact Nat.le_succ _) _
  have hx1 : Blk w1 w.heap.size 44 [.slice ua l.length c] := by
    rw [hw1]
    exact (Blk.new w.drew _ [.slice ua l.length c]).alloc _
  have hy1 : Blk w1 (w.heap.size + 1) 128 [.func (.func 60) #[.pointer (some ⟨d, 0, none⟩)] #[]] := by
    rw [hw1]
    have := Blk.new (w.drew.alloc (.cells #[.slice ua l.length c] 44)) 128 [.func (.func 60) #[.pointer (some ⟨d, 0, none⟩)] #[]]
    rwa [alloc_size] at this
  have HA : Hid (Calls Tryz.prog 57 #[.pointer (some ⟨b, 0, none⟩), .func (.func 89) #[] #[.pointer (some ⟨w.heap.size + 1, 0, none⟩), .pointer (some ⟨w.heap.size, 0, none⟩)], .int .u32 (W.num : Int)] w1 fun e w' => e = .returned (.int .i64 (r : Int)) ∧ Nw O w1 b d (shut r W) S2 w') := by
    rw [hr, hS2]
    refine ask_is w1 b d O W S (append S (nmS W.num) l).2 89 #[] #[.pointer (some ⟨w.heap.size + 1, 0, none⟩), .pointer (some ⟨w.heap.size, 0, none⟩)] (append S (nmS W.num) l).1 W.num hnu (append_lt _ _ _) (h.below hb1) cf_with1 fun w5 hb5 hk => ?_
    exact with1_is w5 w.heap.size (w.heap.size + 1) d O S (nmS W.num) ua c l hk.1 (by omega) (hx1.below (hx1.lt) hb5) (hy1.below hy1.lt hb5) ((hI.below hb1).below hb5) hn
  have RC : Hid (∀ w9, (w9 = w.drew ∨ w9 = w1 ∨ ∃ v, v = Value.int .i64 (r : Int) ∧ Nw O w1 b d (shut r W) S2 w9) → w9.cell? ⟨b, 0, none⟩ = some (.pointer (some ⟨d, 0, none⟩)) ∧ w9.cell? ⟨b, 4, none⟩ = some (.int .u32 (W.num : Int))) := by
    rintro w9 (rfl | rfl | ⟨v, _, O9, q9, _⟩)
    · exact ⟨h.2.1.cell 0 _ rfl, h.2.1.cell 4 _ rfl⟩
    · exact ⟨(h.below hb1).2.1.cell 0 _ rfl, (h.below hb1).2.1.cell 4 _ rfl⟩
    · exact ⟨q9.2.1.cell 0 _ rfl, (q9.2.1.cell 4 _ rfl).trans (by unfold shut; split <;> rfl)⟩
  have HWI := hd (with_is w.drew ua l.length c 60 #[.pointer (some ⟨d, 0, none⟩)] #[])
  have hmx : Tryz.prog.follows .mixedOrders = true := by kernel_rfl
  have HW1 := hd hw1
  have HB1 := hd hb1
  obtain ⟨W2, hW2⟩ : ∃ W2 : Ws, W2 = { W with laid := W.laid + l.length, uns := W.uns + 1 } := ⟨_, rfl⟩
  have HZ : Hid (∀ w9, Nw O w1 b d (shut r W) S2 w9 → Nw O w b d (shut r W) S2 w9 ∧ (r = 0 → w9.cell? ⟨b, 5, none⟩ = some (.int .i64 (W.laid : Int)) ∧ w9.cell? ⟨b, 6, none⟩ = some (.int .i64 (W.uns : Int)) ∧ w9.cell? ⟨b, 2, none⟩ = some (.int .i64 (W.evy : Int)) ∧ w9.frozen? ⟨b, 5, none⟩ = false ∧ w9.frozen? ⟨b, 6, none⟩ = false ∧ b < w9.heap.size ∧ ∀ w10, w10 = (w9.setCell ⟨b, 5, none⟩ (.int .i64 ((W.laid : Int) + (l.length : Int)))).setCell ⟨b, 6, none⟩ (.int .i64 ((W.uns : Int) + 1)) → (w10.cell? ⟨b, 2, none⟩ = some (.int .i64 (W.evy : Int)) ∧ w10.cell? ⟨b, 6, none⟩ = some (.int .i64 ((W.uns : Int) + 1))) ∧ Nw O w b d W2 S2 w10.drew)) := by
    intro w9 q
    refine ⟨Nw.behind hb1 q, fun e => ?_⟩
    subst e
    rw [show shut 0 W = W from if_neg (by omega)] at q
    obtain ⟨O2, hk, hk2, hk3⟩ := q
    refine ⟨hk.2.1.cell 5 _ rfl, hk.2.1.cell 6 _ rfl, hk.2.1.cell 2 _ rfl, hk.2.1.frozen 5, hk.2.1.frozen 6, hk.2.1.lt, ?_⟩
    rintro w10 rfl
    have q1 := Blk.set (j := 6) (Blk.set (j := 5) hk.2.1 (.int .i64 ((W.laid : Int) + (l.length : Int)))) (.int .i64 ((W.uns : Int) + 1))
    refine ⟨⟨q1.cell 2 _ rfl, q1.cell 6 _ rfl⟩, Nw.behind hb1 (Nw.trans ⟨O2, hk, hk2, hk3⟩ fun O3 q => q.write (W' := W2) (((Tr.set (O := fun x => x = b) rfl _).trans (Tr.set (O := fun x => x = b) rfl _) fun x q => .inl q).trans (Tr.drew (fun x => x = b) _) fun x q => .inl q) ?_)⟩
    rw [hW2]
    exact q1
  have HSY : Hid (∀ w0, ∀ O2, WK w0 b d O2 W2 S2 → Calls Tryz.prog 33 #[.pointer (some ⟨b, 0, none⟩)] w0 fun e w' => e = .returned (.int .i64 ((syR W2 S2).1 : Int)) ∧ Nw O2 w0 b d (syR W2 S2).2.1 (syR W2 S2).2.2 w') := fun w0 O2 q => asyR_is w0 b d O2 W2 S2 q (by omega) (fun _ => by rw [hW2]; exact hnu)
  rw [← hW2] at hly
  have HX : Hid ((r ≠ 0 → ly W S l = (r, shut r W, S2)) ∧ (r = 0 → (W.evy = 0 ∨ W.uns + 1 < W.evy) → ly W S l = (0, W2, S2)) ∧ (r = 0 → ¬ (W.evy = 0 ∨ W.uns + 1 < W.evy) → ly W S l = syR W2 S2)) := ⟨fun q => by rw [hly, if_pos q], fun q q2 => by rw [hly, if_neg (by omega), if_pos q2], fun q q2 => by rw [hly, if_neg (by omega), if_neg q2]⟩
  generalize ly W S l = X at HX ⊢
  clear hw1 hx1 hy1 hW2 h hI hn hr hS2 hly hb1 hnu
  go_enter Tryz.func32, Tryz.ntmps32
  go_wp2_with fail
  --REGION la
  refine region_two (fun i => match i with
    | 0 => Value.pointer (some { block := b, off := 0 })
    | 1 => Value.slice ua l.length c
    | 2 => Value.pointer (some { block := b, off := 0 })
    | 3 => Value.pointer (some { block := b, off := 0 })
    | 4 => .pointer (some ⟨b, 0, none⟩)
    | 5 => .pointer (some ⟨d, 0, none⟩)
    | 6 => .func (.func 60) #[.pointer (some ⟨d, 0, none⟩)] #[]
    | 7 => .func (.func 89) #[] #[.pointer (some ⟨w.heap.size + 1, 0, none⟩), .pointer (some ⟨w.heap.size, 0, none⟩)]
    | 8 => Value.pointer (some { block := b, off := 0 })
    | 9 => Value.pointer (some { block := b, off := 0 })
    | 10 => .pointer (some ⟨b, 4, none⟩)
    | 11 => .int .u32 (W.num : Int)
    | 12 => undef
    | 13 => undef
    | _ => undef) 7 12 13 18 w1 (fun v w9 => v = Value.int .i64 (r : Int) ∧ Nw O w1 b d (shut r W) S2 w9) hmx (by kernel_rfl) (by kernel_rfl) (by kernel_rfl) (by kernel_rfl) (by decide) (by kernel_rfl) (by decide) (by decide) rfl ?_ ?_ ?_ ?_
  · intro i o hiE hiC ho a w9 hiM hw9 hout haf
    have ee0 := getq (show a.tmps.getD 0 undef = Value.pointer (some { block := b, off := 0 }) from hout 0 (notDst_spec (by kernel_rfl)))
    have ee1 := getq (show a.tmps.getD 1 undef = Value.slice ua l.length c from hout 1 (notDst_spec (by kernel_rfl)))
    clear hout
    match i, hiE, hiC, hiM, ho, haf with
    | 0, hiE, hiC, hiM, ho, haf =>
      obtain rfl := Option.some.inj ho
      refine step_c (w' := w9) rfl fun K hK => ?_
      simp only [List.getElem_toArray, List.getElem_cons_zero] at hK ⊢
      clear haf ho hiE hiC hiM
      go_simp
      exact hK
    | 1, hiE, hiC, hiM, ho, haf =>
      obtain rfl := Option.some.inj ho
      refine step_c (w' := w9) rfl fun K hK => ?_
      simp only [List.getElem_toArray, List.getElem_cons_succ, List.getElem_cons_zero] at hK ⊢
      clear haf ho hiE hiC hiM
      go_simp
      exact hK
    | 2, hiE, hiC, hiM, ho, haf =>
      obtain rfl := Option.some.inj ho
      refine step_c (w' := w9) rfl fun K hK => ?_
      simp only [List.getElem_toArray, List.getElem_cons_succ, List.getElem_cons_zero] at hK ⊢
      clear haf ho hiE hiC hiM
      go_simp
      exact hK
    | 3, hiE, hiC, hiM, ho, haf =>
      obtain rfl := Option.some.inj ho
      have f2 := getq (show a.tmps.getD 8 undef = Value.pointer (some { block := b, off := 0 }) from haf ⟨2, .data⟩ (by simp) rfl (by decide) 8 rfl)
      refine step_c (w' := w9) rfl fun K hK => ?_
      simp only [List.getElem_toArray, List.getElem_cons_succ, List.getElem_cons_zero] at hK ⊢
      clear haf ho hiE hiC hiM
      go_simp
      exact hK
    | 4, hiE, hiC, hiM, ho, haf =>
      obtain rfl := Option.some.inj ho
      have f3 := getq (show a.tmps.getD 9 undef = Value.pointer (some { block := b, off := 0 }) from haf ⟨3, .data⟩ (by simp) rfl (by decide) 9 rfl)
      refine step_c (w' := w9) rfl fun K hK => ?_
      simp only [List.getElem_toArray, List.getElem_cons_succ, List.getElem_cons_zero] at hK ⊢
      clear haf ho hiE hiC hiM
      go_simp
      exact hK
    | 5, hiE, hiC, hiM, ho, haf =>
      obtain rfl := Option.some.inj ho
      have f4 := getq (show a.tmps.getD 10 undef = .pointer (some ⟨b, 0, none⟩) from haf ⟨4, .data⟩ (by simp) rfl (by decide) 10 rfl)
      refine step_c (w' := w9) rfl fun K hK => ?_
      simp only [List.getElem_toArray, List.getElem_cons_succ, List.getElem_cons_zero] at hK ⊢
      clear haf ho hiE hiC hiM
      have hc := (RC.out w9 hw9).1
      go_simp
      exact hK
    | 6, hiE, hiC, hiM, ho, haf =>
      obtain rfl := Option.some.inj ho
      have f5 := getq (show a.tmps.getD 11 undef = .pointer (some ⟨d, 0, none⟩) from haf ⟨5, .data⟩ (by simp) rfl (by decide) 11 rfl)
      refine step_c (w' := w9) rfl fun K hK => ?_
      simp only [List.getElem_toArray, List.getElem_cons_succ, List.getElem_cons_zero] at hK ⊢
      clear haf ho hiE hiC hiM
      go_simp
      exact hK
    | 7, _, _, hiM, _, _ => exact absurd rfl hiM
    | 8, hiE, hiC, hiM, ho, haf =>
      obtain rfl := Option.some.inj ho
      refine step_c (w' := w9) rfl fun K hK => ?_
      simp only [List.getElem_toArray, List.getElem_cons_succ, List.getElem_cons_zero] at hK ⊢
      clear haf ho hiE hiC hiM
      go_simp
      exact hK
    | 9, hiE, hiC, hiM, ho, haf =>
      obtain rfl := Option.some.inj ho
      have f8 := getq (show a.tmps.getD 14 undef = Value.pointer (some { block := b, off := 0 }) from haf ⟨8, .data⟩ (by simp) rfl (by decide) 14 rfl)
      refine step_c (w' := w9) rfl fun K hK => ?_
      simp only [List.getElem_toArray, List.getElem_cons_succ, List.getElem_cons_zero] at hK ⊢
      clear haf ho hiE hiC hiM
      go_simp
      exact hK
    | 10, hiE, hiC, hiM, ho, haf =>
      obtain rfl := Option.some.inj ho
      have f9 := getq (show a.tmps.getD 15 undef = Value.pointer (some { block := b, off := 0 }) from haf ⟨9, .data⟩ (by simp) rfl (by decide) 15 rfl)
      refine step_c (w' := w9) rfl fun K hK => ?_
      simp only [List.getElem_toArray, List.getElem_cons_succ, List.getElem_cons_zero] at hK ⊢
      clear haf ho hiE hiC hiM
      go_simp
      exact hK
    | 11, hiE, hiC, hiM, ho, haf =>
      obtain rfl := Option.some.inj ho
      have f10 := getq (show a.tmps.getD 16 undef = .pointer (some ⟨b, 4, none⟩) from haf ⟨10, .data⟩ (by simp) rfl (by decide) 16 rfl)
      refine step_c (w' := w9) rfl fun K hK => ?_
      simp only [List.getElem_toArray, List.getElem_cons_succ, List.getElem_cons_zero] at hK ⊢
      clear haf ho hiE hiC hiM
      have hc := (RC.out w9 hw9).2
      go_simp
      exact hK
    | 12, _, hiC, _, _, _ => exact absurd rfl hiC
    | 13, hiE, _, _, _, _ => exact absurd rfl hiE
    | n + 14, _, _, _, ho, _ => simp at ho
  · intro o ho a hout haf
    have ee0 := getq (show a.tmps.getD 0 undef = Value.pointer (some { block := b, off := 0 }) from hout 0 (notDst_spec (by kernel_rfl)))
    have ee1 := getq (show a.tmps.getD 1 undef = Value.slice ua l.length c from hout 1 (notDst_spec (by kernel_rfl)))
    obtain rfl := Option.some.inj ho
    have f1 := getq (show a.tmps.getD 7 undef = Value.slice ua l.length c from haf ⟨1, .data⟩ (by simp) rfl (by decide) 7 rfl)
    have f6 := getq (show a.tmps.getD 12 undef = .func (.func 60) #[.pointer (some ⟨d, 0, none⟩)] #[] from haf ⟨6, .data⟩ (by simp) rfl (by decide) 12 rfl)
    clear haf ho hout
    simp only [List.getElem_toArray, List.getElem_cons_succ, List.getElem_cons_zero]
    go_simp
    refine Calls.mono HWI.out ?_
    rintro e9 w9 ⟨rfl, rfl⟩
    exact ⟨rfl, HW1.out.symm⟩
  · intro o ho a hout haf
    have ee0 := getq (show a.tmps.getD 0 undef = Value.pointer (some { block := b, off := 0 }) from hout 0 (notDst_spec (by kernel_rfl)))
    have ee1 := getq (show a.tmps.getD 1 undef = Value.slice ua l.length c from hout 1 (notDst_spec (by kernel_rfl)))
    obtain rfl := Option.some.inj ho
    have f0 := getq (show a.tmps.getD 6 undef = Value.pointer (some { block := b, off := 0 }) from haf ⟨0, .data⟩ (by simp) rfl (by decide) 6 rfl)
    have f7 := getq (show a.tmps.getD 13 undef = .func (.func 89) #[] #[.pointer (some ⟨w.heap.size + 1, 0, none⟩), .pointer (some ⟨w.heap.size, 0, none⟩)] from haf ⟨7, .data⟩ (by simp) rfl (by decide) 13 rfl)
    have f11 := getq (show a.tmps.getD 17 undef = .int .u32 (W.num : Int) from haf ⟨11, .data⟩ (by simp) rfl (by decide) 17 rfl)
    clear haf ho hout
    simp only [List.getElem_toArray, List.getElem_cons_succ, List.getElem_cons_zero]
    go_simp
    refine Calls.mono HA.out ?_
    rintro e9 w9 ⟨rfl, hN9⟩
    exact ⟨_, rfl, rfl, hN9⟩
  · intro o ho aa w9 v9 hR9 hdf hsz hout hval hvC hown
    obtain rfl := Option.some.inj ho
    have hat : aa.tmps = #[Value.pointer (some { block := b, off := 0 }), Value.slice ua l.length c, undef, undef, Value.int IntKind.i64 0, undef, Value.pointer (some { block := b, off := 0 }), Value.slice ua l.length c, Value.pointer (some { block := b, off := 0 }), Value.pointer (some { block := b, off := 0 }), .pointer (some ⟨b, 0, none⟩), .pointer (some ⟨d, 0, none⟩), .func (.func 60) #[.pointer (some ⟨d, 0, none⟩)] #[], .func (.func 89) #[] #[.pointer (some ⟨w.heap.size + 1, 0, none⟩), .pointer (some ⟨w.heap.size, 0, none⟩)], Value.pointer (some { block := b, off := 0 }), Value.pointer (some { block := b, off := 0 }), .pointer (some ⟨b, 4, none⟩), .int .u32 (W.num : Int), v9, undef, undef, undef, undef, undef, undef, undef, undef, undef, undef, undef, undef, undef, undef, undef, undef, undef, undef, undef, undef, undef, undef, undef, undef, undef, undef, undef, undef, undef, undef, undef, undef, undef, undef, undef, undef, undef] := by
      refine arr_one (hsz.trans rfl) fun kk hkk => ?_
      match kk, hkk with
      | 0, _ => exact hout 0 (notDst_spec (by kernel_rfl))
      | 1, _ => exact hout 1 (notDst_spec (by kernel_rfl))
      | 2, _ => exact hout 2 (notDst_spec (by kernel_rfl))
      | 3, _ => exact hout 3 (notDst_spec (by kernel_rfl))
      | 4, _ => exact hout 4 (notDst_spec (by kernel_rfl))
      | 5, _ => exact hown 5 rfl
      | 6, _ => exact hval 0 6 (by decide) (by decide) (by decide) rfl
      | 7, _ => exact hval 1 7 (by decide) (by decide) (by decide) rfl
      | 8, _ => exact hval 2 8 (by decide) (by decide) (by decide) rfl
      | 9, _ => exact hval 3 9 (by decide) (by decide) (by decide) rfl
      | 10, _ => exact hval 4 10 (by decide) (by decide) (by decide) rfl
      | 11, _ => exact hval 5 11 (by decide) (by decide) (by decide) rfl
      | 12, _ => exact hval 6 12 (by decide) (by decide) (by decide) rfl
      | 13, _ => exact hval 7 13 (by decide) (by decide) (by decide) rfl
      | 14, _ => exact hval 8 14 (by decide) (by decide) (by decide) rfl
      | 15, _ => exact hval 9 15 (by decide) (by decide) (by decide) rfl
      | 16, _ => exact hval 10 16 (by decide) (by decide) (by decide) rfl
      | 17, _ => exact hval 11 17 (by decide) (by decide) (by decide) rfl
      | 18, _ => exact hvC
      | 19, _ => exact hout 19 (notDst_spec (by kernel_rfl))
      | 20, _ => exact hout 20 (notDst_spec (by kernel_rfl))
      | 21, _ => exact hout 21 (notDst_spec (by kernel_rfl))
      | 22, _ => exact hout 22 (notDst_spec (by kernel_rfl))
      | 23, _ => exact hout 23 (notDst_spec (by kernel_rfl))
      | 24, _ => exact hout 24 (notDst_spec (by kernel_rfl))
      | 25, _ => exact hout 25 (notDst_spec (by kernel_rfl))
      | 26, _ => exact hout 26 (notDst_spec (by kernel_rfl))
      | 27, _ => exact hout 27 (notDst_spec (by kernel_rfl))
      | 28, _ => exact hout 28 (notDst_spec (by kernel_rfl))
      | 29, _ => exact hout 29 (notDst_spec (by kernel_rfl))
      | 30, _ => exact hout 30 (notDst_spec (by kernel_rfl))
      | 31, _ => exact hout 31 (notDst_spec (by kernel_rfl))
      | 32, _ => exact hout 32 (notDst_spec (by kernel_rfl))
      | 33, _ => exact hout 33 (notDst_spec (by kernel_rfl))
      | 34, _ => exact hout 34 (notDst_spec (by kernel_rfl))
      | 35, _ => exact hout 35 (notDst_spec (by kernel_rfl))
      | 36, _ => exact hout 36 (notDst_spec (by kernel_rfl))
      | 37, _ => exact hout 37 (notDst_spec (by kernel_rfl))
      | 38, _ => exact hout 38 (notDst_spec (by kernel_rfl))
      | 39, _ => exact hout 39 (notDst_spec (by kernel_rfl))
      | 40, _ => exact hout 40 (notDst_spec (by kernel_rfl))
      | 41, _ => exact hout 41 (notDst_spec (by kernel_rfl))
      | 42, _ => exact hout 42 (notDst_spec (by kernel_rfl))
      | 43, _ => exact hout 43 (notDst_spec (by kernel_rfl))
      | 44, _ => exact hout 44 (notDst_spec (by kernel_rfl))
      | 45, _ => exact hout 45 (notDst_spec (by kernel_rfl))
      | 46, _ => exact hout 46 (notDst_spec (by kernel_rfl))
      | 47, _ => exact hout 47 (notDst_spec (by kernel_rfl))
      | 48, _ => exact hout 48 (notDst_spec (by kernel_rfl))
      | 49, _ => exact hout 49 (notDst_spec (by kernel_rfl))
      | 50, _ => exact hout 50 (notDst_spec (by kernel_rfl))
      | 51, _ => exact hout 51 (notDst_spec (by kernel_rfl))
      | 52, _ => exact hout 52 (notDst_spec (by kernel_rfl))
      | 53, _ => exact hout 53 (notDst_spec (by kernel_rfl))
      | 54, _ => exact hout 54 (notDst_spec (by kernel_rfl))
      | 55, _ => exact hout 55 (notDst_spec (by kernel_rfl))
      | n + 56, h => exact absurd h (by simp)
    obtain ⟨tt, dd⟩ := aa
    simp only at hat hdf
    subst hat hdf
    clear hsz hout hval hown ho hvC
    simp only [List.getElem_toArray, List.getElem_cons_succ, List.getElem_cons_zero]
    obtain ⟨rfl, hN9⟩ := hR9
    obtain ⟨hA9, hB9⟩ := HZ.out w9 hN9
    have HA9 := hd hA9
    clear hN9 hA9
    by_cases hz : r = 0
    · subst hz
      obtain ⟨k5, k6, k2, g5, g6, hlt, k4⟩ := hB9 rfl
      have HK4 := hd k4
      clear hB9 k4
      go_simp
      go_wp2_with fail
      obtain ⟨w10, hw10⟩ : ∃ w10, w10 = (w9.setCell ⟨b, 5, none⟩ (.int .i64 ((W.laid : Int) + (l.length : Int)))).setCell ⟨b, 6, none⟩ (.int .i64 ((W.uns : Int) + 1)) := ⟨_, rfl⟩
      obtain ⟨⟨hm2, hm6⟩, hN10⟩ := HK4.out w10 hw10
      have m2 := hd hm2
      have m6 := hd hm6
      have HN10 := hd hN10
      rw [← hw10]
      clear hm2 hm6 hN10 hw10 k5 k6 k2 g5 g6 hlt
      by_cases he : W.evy = 0
      · have he0 := hd he
        rw [show (W.evy : Int) = 0 by omega] at m2
        clear he
        refine region_skip (fun i9 v9 _ => match i9 with
          | 0 => v9 = Value.pointer (some { block := b, off := 0 })
          | 1 => v9 = Value.pointer (some { block := b, off := 0 })
          | 2 => v9 = .pointer (some ⟨b, 2, none⟩)
          | 3 => v9 = .int .i64 0
          | 4 => v9 = .bool true
          | 5 => v9 = .bool true
          | 6 => v9 = undef
          | 7 => v9 = undef
          | 8 => v9 = undef
          | 9 => v9 = undef
          | 10 => v9 = undef
          | 11 => v9 = undef
          | 12 => v9 = undef
          | 13 => v9 = undef
          | 14 => v9 = undef
          | _ => v9 = .bool true) (fun w => w = w10.drew) hmx (by kernel_rfl) (by kernel_rfl) rfl ?_ ?_ ?_
        · intro i9 v9 w8 w9 _ _ hb hG
          match i9, hG with
          | 0, h => exact h
          | 1, h => exact h
          | 2, h => exact h
          | 3, h => exact h
          | 4, h => exact h
          | 5, h => exact h
          | 6, h => exact h
          | 7, h => exact h
          | 8, h => exact h
          | 9, h => exact h
          | 10, h => exact h
          | 11, h => exact h
          | 12, h => exact h
          | 13, h => exact h
          | 14, h => exact h
          | n + 15, h => exact h
        · intro i9 o9 ho a9 w9 hW hdf hsz hout haf
          have ee0 := getq (show a9.tmps.getD 0 undef = Value.pointer (some { block := b, off := 0 }) from hout 0 (notDst_spec (by kernel_rfl)))
          have hsz2 : a9.tmps.size = 56 := hsz
          clear hout hsz hdf
          match i9, ho, haf with
          | 0, ho, haf =>
            obtain rfl := Option.some.inj ho
            refine skip_good _ (wanted_none rfl) ?_
            clear haf ho hsz2
            intro K hK
            simp only [List.getElem_toArray, List.getElem_cons_zero] at hK ⊢
            obtain rfl := hW
            go_simp
            exact hK _ _ ⟨Below.refl _ _, rfl, rfl⟩
          | 1, ho, haf =>
            obtain rfl := Option.some.inj ho
            have f0 := getq (show a9.tmps.getD 38 undef = Value.pointer (some { block := b, off := 0 }) from haf ⟨0, .data⟩ (by simp) rfl)
            refine skip_good _ (wanted_none rfl) ?_
            clear haf ho hsz2
            intro K hK
            simp only [List.getElem_toArray, List.getElem_cons_succ, List.getElem_cons_zero] at hK ⊢
            obtain rfl := hW
            go_simp
            exact hK _ _ ⟨Below.refl _ _, rfl, rfl⟩
          | 2, ho, haf =>
            obtain rfl := Option.some.inj ho
            have f1 := getq (show a9.tmps.getD 39 undef = Value.pointer (some { block := b, off := 0 }) from haf ⟨1, .data⟩ (by simp) rfl)
            refine skip_good _ (wanted_none rfl) ?_
            clear haf ho hsz2
            intro K hK
            simp only [List.getElem_toArray, List.getElem_cons_succ, List.getElem_cons_zero] at hK ⊢
            obtain rfl := hW
            go_simp
            exact hK _ _ ⟨Below.refl _ _, rfl, rfl⟩
          | 3, ho, haf =>
            obtain rfl := Option.some.inj ho
            have f2 := getq (show a9.tmps.getD 40 undef = .pointer (some ⟨b, 2, none⟩) from haf ⟨2, .data⟩ (by simp) rfl)
            refine skip_good _ (wanted_none rfl) ?_
            clear haf ho hsz2
            intro K hK
            simp only [List.getElem_toArray, List.getElem_cons_succ, List.getElem_cons_zero] at hK ⊢
            obtain rfl := hW
            have hc := m2.out
            go_simp
            exact hK _ _ ⟨Below.refl _ _, rfl, rfl⟩
          | 4, ho, haf =>
            obtain rfl := Option.some.inj ho
            have f3 := getq (show a9.tmps.getD 41 undef = .int .i64 0 from haf ⟨3, .data⟩ (by simp) rfl)
            refine skip_good _ (wanted_none rfl) ?_
            clear haf ho hsz2
            intro K hK
            simp only [List.getElem_toArray, List.getElem_cons_succ, List.getElem_cons_zero] at hK ⊢
            obtain rfl := hW
            go_simp
            exact hK _ _ ⟨Below.refl _ _, rfl, rfl⟩
          | 5, ho, haf =>
            obtain rfl := Option.some.inj ho
            have f4 := getq (show a9.tmps.getD 42 undef = .bool true from haf ⟨4, .data⟩ (by simp) rfl)
            refine skip_good _ (wanted_none rfl) ?_
            clear haf ho hsz2
            intro K hK
            simp only [List.getElem_toArray, List.getElem_cons_succ, List.getElem_cons_zero] at hK ⊢
            obtain rfl := hW
            go_simp
            exact hK _ _ ⟨Below.refl _ _, rfl, rfl⟩
          | 6, ho, haf =>
            obtain rfl := Option.some.inj ho
            have gg : a9.tmps.getD 43 undef = .bool true := haf ⟨5, .guard⟩ (by simp) rfl
            exact skip_no (b := true) rfl (yielded_of (d := 43) rfl (by omega) gg) rfl
          | 7, ho, haf =>
            obtain rfl := Option.some.inj ho
            have gg : a9.tmps.getD 43 undef = .bool true := haf ⟨5, .guard⟩ (by simp) rfl
            exact skip_no (b := true) rfl (yielded_of (d := 43) rfl (by omega) gg) rfl
          | 8, ho, haf =>
            obtain rfl := Option.some.inj ho
            have gg : a9.tmps.getD 43 undef = .bool true := haf ⟨5, .guard⟩ (by simp) rfl
            exact skip_no (b := true) rfl (yielded_of (d := 43) rfl (by omega) gg) rfl
          | 9, ho, haf =>
            obtain rfl := Option.some.inj ho
            have gg : a9.tmps.getD 43 undef = .bool true := haf ⟨5, .guard⟩ (by simp) rfl
            exact skip_no (b := true) rfl (yielded_of (d := 43) rfl (by omega) gg) rfl
          | 10, ho, haf =>
            obtain rfl := Option.some.inj ho
            have gg : a9.tmps.getD 43 undef = .bool true := haf ⟨5, .guard⟩ (by simp) rfl
            exact skip_no (b := true) rfl (yielded_of (d := 43) rfl (by omega) gg) rfl
          | 11, ho, haf =>
            obtain rfl := Option.some.inj ho
            have gg : a9.tmps.getD 43 undef = .bool true := haf ⟨5, .guard⟩ (by simp) rfl
            exact skip_no (b := true) rfl (yielded_of (d := 43) rfl (by omega) gg) rfl
          | 12, ho, haf =>
            obtain rfl := Option.some.inj ho
            have gg : a9.tmps.getD 43 undef = .bool true := haf ⟨5, .guard⟩ (by simp) rfl
            exact skip_no (b := true) rfl (yielded_of (d := 43) rfl (by omega) gg) rfl
          | 13, ho, haf =>
            obtain rfl := Option.some.inj ho
            have gg : a9.tmps.getD 43 undef = .bool true := haf ⟨5, .guard⟩ (by simp) rfl
            exact skip_no (b := true) rfl (yielded_of (d := 43) rfl (by omega) gg) rfl
          | 14, ho, haf =>
            obtain rfl := Option.some.inj ho
            have gg : a9.tmps.getD 43 undef = .bool true := haf ⟨5, .guard⟩ (by simp) rfl
            exact skip_no (b := true) rfl (yielded_of (d := 43) rfl (by omega) gg) rfl
          | 15, ho, haf =>
            obtain rfl := Option.some.inj ho
            have f5 := getq (show a9.tmps.getD 43 undef = .bool true from haf ⟨5, .data⟩ (by simp) rfl)
            have f14 := getq (show a9.tmps.getD 52 undef = undef from haf ⟨14, .data⟩ (by simp) rfl)
            refine skip_good _ (wanted_none rfl) ?_
            clear haf ho hsz2
            intro K hK
            simp only [List.getElem_toArray, List.getElem_cons_succ, List.getElem_cons_zero] at hK ⊢
            obtain rfl := hW
            go_simp
            exact hK _ _ ⟨Below.refl _ _, rfl, rfl⟩
          | n + 16, ho, haf => simp at ho
        · intro aa w9 hW hdf hsz hout hall
          have hat : aa.tmps = #[Value.pointer (some { block := b, off := 0 }), Value.slice ua l.length c, undef, undef, Value.int IntKind.i64 0, Value.int IntKind.i64 0, Value.pointer (some { block := b, off := 0 }), Value.slice ua l.length c, Value.pointer (some { block := b, off := 0 }), Value.pointer (some { block := b, off := 0 }), Value.pointer (some { block := b, off := 0 }), Value.pointer (some { block := d, off := 0 }), Value.func (Fn.func 60) #[Value.pointer (some { block := d, off := 0 })] #[], Value.func (Fn.func 89) #[] #[Value.pointer (some { block := w.heap.size + 1, off := 0 }), Value.pointer (some { block := w.heap.size, off := 0 })], Value.pointer (some { block := b, off := 0 }), Value.pointer (some { block := b, off := 0 }), Value.pointer (some { block := b, off := 4 }), Value.int IntKind.u32 (W.num : Int), Value.int IntKind.i64 0, Value.int IntKind.i64 0, Value.bool false, undef, Value.pointer (some { block := b, off := 0 }), Value.pointer (some { block := b, off := 0 }), Value.pointer (some { block := b, off := 5 }), Value.int IntKind.i64 (W.laid : Int), Value.slice ua l.length c, Value.int IntKind.i64 (l.length : Int), Value.int IntKind.i64 ((W.laid : Int) + (l.length : Int)), Value.pointer (some { block := b, off := 0 }), Value.pointer (some { block := b, off := 5 }), Value.pointer (some { block := b, off := 0 }), Value.pointer (some { block := b, off := 0 }), Value.pointer (some { block := b, off := 6 }), Value.int IntKind.i64 (W.uns : Int), Value.int IntKind.i64 ((W.uns : Int) + 1), Value.pointer (some { block := b, off := 0 }), Value.pointer (some { block := b, off := 6 }), Value.pointer (some { block := b, off := 0 }), Value.pointer (some { block := b, off := 0 }), .pointer (some ⟨b, 2, none⟩), .int .i64 0, .bool true, .bool true, undef, undef, undef, undef, undef, undef, undef, undef, undef, .bool true, undef, undef] := by
            refine arr_one (hsz.trans rfl) fun kk hkk => ?_
            match kk, hkk with
            | 0, _ => exact hout 0 (notDst_spec (by kernel_rfl))
            | 1, _ => exact hout 1 (notDst_spec (by kernel_rfl))
            | 2, _ => exact hout 2 (notDst_spec (by kernel_rfl))
            | 3, _ => exact hout 3 (notDst_spec (by kernel_rfl))
            | 4, _ => exact hout 4 (notDst_spec (by kernel_rfl))
            | 5, _ => exact hout 5 (notDst_spec (by kernel_rfl))
            | 6, _ => exact hout 6 (notDst_spec (by kernel_rfl))
            | 7, _ => exact hout 7 (notDst_spec (by kernel_rfl))
            | 8, _ => exact hout 8 (notDst_spec (by kernel_rfl))
            | 9, _ => exact hout 9 (notDst_spec (by kernel_rfl))
            | 10, _ => exact hout 10 (notDst_spec (by kernel_rfl))
            | 11, _ => exact hout 11 (notDst_spec (by kernel_rfl))
            | 12, _ => exact hout 12 (notDst_spec (by kernel_rfl))
            | 13, _ => exact hout 13 (notDst_spec (by kernel_rfl))
            | 14, _ => exact hout 14 (notDst_spec (by kernel_rfl))
            | 15, _ => exact hout 15 (notDst_spec (by kernel_rfl))
            | 16, _ => exact hout 16 (notDst_spec (by kernel_rfl))
            | 17, _ => exact hout 17 (notDst_spec (by kernel_rfl))
            | 18, _ => exact hout 18 (notDst_spec (by kernel_rfl))
            | 19, _ => exact hout 19 (notDst_spec (by kernel_rfl))
            | 20, _ => exact hout 20 (notDst_spec (by kernel_rfl))
            | 21, _ => exact hout 21 (notDst_spec (by kernel_rfl))
            | 22, _ => exact hout 22 (notDst_spec (by kernel_rfl))
            | 23, _ => exact hout 23 (notDst_spec (by kernel_rfl))
            | 24, _ => exact hout 24 (notDst_spec (by kernel_rfl))
            | 25, _ => exact hout 25 (notDst_spec (by kernel_rfl))
            | 26, _ => exact hout 26 (notDst_spec (by kernel_rfl))
            | 27, _ => exact hout 27 (notDst_spec (by kernel_rfl))
            | 28, _ => exact hout 28 (notDst_spec (by kernel_rfl))
            | 29, _ => exact hout 29 (notDst_spec (by kernel_rfl))
            | 30, _ => exact hout 30 (notDst_spec (by kernel_rfl))
            | 31, _ => exact hout 31 (notDst_spec (by kernel_rfl))
            | 32, _ => exact hout 32 (notDst_spec (by kernel_rfl))
            | 33, _ => exact hout 33 (notDst_spec (by kernel_rfl))
            | 34, _ => exact hout 34 (notDst_spec (by kernel_rfl))
            | 35, _ => exact hout 35 (notDst_spec (by kernel_rfl))
            | 36, _ => exact hout 36 (notDst_spec (by kernel_rfl))
            | 37, _ => exact hout 37 (notDst_spec (by kernel_rfl))
            | 38, _ => exact hall 0 (by decide)
            | 39, _ => exact hall 1 (by decide)
            | 40, _ => exact hall 2 (by decide)
            | 41, _ => exact hall 3 (by decide)
            | 42, _ => exact hall 4 (by decide)
            | 43, _ => exact hall 5 (by decide)
            | 44, _ => exact hall 6 (by decide)
            | 45, _ => exact hall 7 (by decide)
            | 46, _ => exact hall 8 (by decide)
            | 47, _ => exact hall 9 (by decide)
            | 48, _ => exact hall 10 (by decide)
            | 49, _ => exact hall 11 (by decide)
            | 50, _ => exact hall 12 (by decide)
            | 51, _ => exact hall 13 (by decide)
            | 52, _ => exact hall 14 (by decide)
            | 53, _ => exact hall 15 (by decide)
            | 54, _ => exact hout 54 (notDst_spec (by kernel_rfl))
            | 55, _ => exact hout 55 (notDst_spec (by kernel_rfl))
            | n + 56, h => exact absurd h (by simp)
          obtain ⟨tt, dd⟩ := aa
          simp only at hat hdf
          subst hat hdf
          clear hsz hout hall
          obtain rfl := hW
          go_simp
          go_wp2_with fail
          go_ret
          rw [HX.out.2.1 (by first | rfl | trivial) (.inl he0.out)]
          exact ⟨rfl, HN10.out⟩
      · have he0 := hd he
        have hev : Hid (((W.evy : Int) == 0) = false) := by show ((W.evy : Int) == 0) = false; rw [beq_eq_false_iff_ne]; omega
        clear he
        refine region_skip (fun i9 v9 _ => match i9 with
          | 0 => v9 = Value.pointer (some { block := b, off := 0 })
          | 1 => v9 = Value.pointer (some { block := b, off := 0 })
          | 2 => v9 = .pointer (some ⟨b, 2, none⟩)
          | 3 => v9 = .int .i64 (W.evy : Int)
          | 4 => v9 = .bool false
          | 5 => v9 = .bool false
          | 6 => v9 = Value.pointer (some { block := b, off := 0 })
          | 7 => v9 = Value.pointer (some { block := b, off := 0 })
          | 8 => v9 = .pointer (some ⟨b, 6, none⟩)
          | 9 => v9 = .int .i64 ((W.uns : Int) + 1)
          | 10 => v9 = Value.pointer (some { block := b, off := 0 })
          | 11 => v9 = Value.pointer (some { block := b, off := 0 })
          | 12 => v9 = .pointer (some ⟨b, 2, none⟩)
          | 13 => v9 = .int .i64 (W.evy : Int)
          | 14 => v9 = .bool (decide ((W.uns : Int) + 1 < (W.evy : Int)))
          | _ => v9 = .bool (decide ((W.uns : Int) + 1 < (W.evy : Int)))) (fun w => w = w10.drew) hmx (by kernel_rfl) (by kernel_rfl) rfl ?_ ?_ ?_
        · intro i9 v9 w8 w9 _ _ hb hG
          match i9, hG with
          | 0, h => exact h
          | 1, h => exact h
          | 2, h => exact h
          | 3, h => exact h
          | 4, h => exact h
          | 5, h => exact h
          | 6, h => exact h
          | 7, h => exact h
          | 8, h => exact h
          | 9, h => exact h
          | 10, h => exact h
          | 11, h => exact h
          | 12, h => exact h
          | 13, h => exact h
          | 14, h => exact h
          | n + 15, h => exact h
        · intro i9 o9 ho a9 w9 hW hdf hsz hout haf
          have ee0 := getq (show a9.tmps.getD 0 undef = Value.pointer (some { block := b, off := 0 }) from hout 0 (notDst_spec (by kernel_rfl)))
          have hsz2 : a9.tmps.size = 56 := hsz
          clear hout hsz hdf
          match i9, ho, haf with
          | 0, ho, haf =>
            obtain rfl := Option.some.inj ho
            refine skip_good _ (wanted_none rfl) ?_
            clear haf ho hsz2
            intro K hK
            simp only [List.getElem_toArray, List.getElem_cons_zero] at hK ⊢
            obtain rfl := hW
            go_simp
            exact hK _ _ ⟨Below.refl _ _, rfl, rfl⟩
          | 1, ho, haf =>
            obtain rfl := Option.some.inj ho
            have f0 := getq (show a9.tmps.getD 38 undef = Value.pointer (some { block := b, off := 0 }) from haf ⟨0, .data⟩ (by simp) rfl)
            refine skip_good _ (wanted_none rfl) ?_
            clear haf ho hsz2
            intro K hK
            simp only [List.getElem_toArray, List.getElem_cons_succ, List.getElem_cons_zero] at hK ⊢
            obtain rfl := hW
            go_simp
            exact hK _ _ ⟨Below.refl _ _, rfl, rfl⟩
          | 2, ho, haf =>
            obtain rfl := Option.some.inj ho
            have f1 := getq (show a9.tmps.getD 39 undef = Value.pointer (some { block := b, off := 0 }) from haf ⟨1, .data⟩ (by simp) rfl)
            refine skip_good _ (wanted_none rfl) ?_
            clear haf ho hsz2
            intro K hK
            simp only [List.getElem_toArray, List.getElem_cons_succ, List.getElem_cons_zero] at hK ⊢
            obtain rfl := hW
            go_simp
            exact hK _ _ ⟨Below.refl _ _, rfl, rfl⟩
          | 3, ho, haf =>
            obtain rfl := Option.some.inj ho
            have f2 := getq (show a9.tmps.getD 40 undef = .pointer (some ⟨b, 2, none⟩) from haf ⟨2, .data⟩ (by simp) rfl)
            refine skip_good _ (wanted_none rfl) ?_
            clear haf ho hsz2
            intro K hK
            simp only [List.getElem_toArray, List.getElem_cons_succ, List.getElem_cons_zero] at hK ⊢
            obtain rfl := hW
            have hc := m2.out
            go_simp
            exact hK _ _ ⟨Below.refl _ _, rfl, rfl⟩
          | 4, ho, haf =>
            obtain rfl := Option.some.inj ho
            have f3 := getq (show a9.tmps.getD 41 undef = .int .i64 (W.evy : Int) from haf ⟨3, .data⟩ (by simp) rfl)
            refine skip_good _ (wanted_none rfl) ?_
            clear haf ho hsz2
            intro K hK
            simp only [List.getElem_toArray, List.getElem_cons_succ, List.getElem_cons_zero] at hK ⊢
            obtain rfl := hW
            have hc := hev.out
            go_simp
            exact hK _ _ ⟨Below.refl _ _, rfl, rfl⟩
          | 5, ho, haf =>
            obtain rfl := Option.some.inj ho
            have f4 := getq (show a9.tmps.getD 42 undef = .bool false from haf ⟨4, .data⟩ (by simp) rfl)
            refine skip_good _ (wanted_none rfl) ?_
            clear haf ho hsz2
            intro K hK
            simp only [List.getElem_toArray, List.getElem_cons_succ, List.getElem_cons_zero] at hK ⊢
            obtain rfl := hW
            go_simp
            exact hK _ _ ⟨Below.refl _ _, rfl, rfl⟩
          | 6, ho, haf =>
            obtain rfl := Option.some.inj ho
            have gg : a9.tmps.getD 43 undef = .bool false := haf ⟨5, .guard⟩ (by simp) rfl
            refine skip_good _ (wanted_some rfl (yielded_of (d := 43) rfl (by omega) gg)) ?_
            clear haf ho hsz2 gg
            intro K hK
            simp only [List.getElem_toArray, List.getElem_cons_succ, List.getElem_cons_zero] at hK ⊢
            obtain rfl := hW
            go_simp
            exact hK _ _ ⟨Below.refl _ _, rfl, rfl⟩
          | 7, ho, haf =>
            obtain rfl := Option.some.inj ho
            have gg : a9.tmps.getD 43 undef = .bool false := haf ⟨5, .guard⟩ (by simp) rfl
            have f6 := getq (show a9.tmps.getD 44 undef = Value.pointer (some { block := b, off := 0 }) from haf ⟨6, .data⟩ (by simp) rfl)
            refine skip_good _ (wanted_some rfl (yielded_of (d := 43) rfl (by omega) gg)) ?_
            clear haf ho hsz2 gg
            intro K hK
            simp only [List.getElem_toArray, List.getElem_cons_succ, List.getElem_cons_zero] at hK ⊢
            obtain rfl := hW
            go_simp
            exact hK _ _ ⟨Below.refl _ _, rfl, rfl⟩
          | 8, ho, haf =>
            obtain rfl := Option.some.inj ho
            have gg : a9.tmps.getD 43 undef = .bool false := haf ⟨5, .guard⟩ (by simp) rfl
            have f7 := getq (show a9.tmps.getD 45 undef = Value.pointer (some { block := b, off := 0 }) from haf ⟨7, .data⟩ (by simp) rfl)
            refine skip_good _ (wanted_some rfl (yielded_of (d := 43) rfl (by omega) gg)) ?_
            clear haf ho hsz2 gg
            intro K hK
            simp only [List.getElem_toArray, List.getElem_cons_succ, List.getElem_cons_zero] at hK ⊢
            obtain rfl := hW
            go_simp
            exact hK _ _ ⟨Below.refl _ _, rfl, rfl⟩
          | 9, ho, haf =>
            obtain rfl := Option.some.inj ho
            have gg : a9.tmps.getD 43 undef = .bool false := haf ⟨5, .guard⟩ (by simp) rfl
            have f8 := getq (show a9.tmps.getD 46 undef = .pointer (some ⟨b, 6, none⟩) from haf ⟨8, .data⟩ (by simp) rfl)
            refine skip_good _ (wanted_some rfl (yielded_of (d := 43) rfl (by omega) gg)) ?_
            clear haf ho hsz2 gg
            intro K hK
            simp only [List.getElem_toArray, List.getElem_cons_succ, List.getElem_cons_zero] at hK ⊢
            obtain rfl := hW
            have hc := m6.out
            go_simp
            exact hK _ _ ⟨Below.refl _ _, rfl, rfl⟩
          | 10, ho, haf =>
            obtain rfl := Option.some.inj ho
            have gg : a9.tmps.getD 43 undef = .bool false := haf ⟨5, .guard⟩ (by simp) rfl
            refine skip_good _ (wanted_some rfl (yielded_of (d := 43) rfl (by omega) gg)) ?_
            clear haf ho hsz2 gg
            intro K hK
            simp only [List.getElem_toArray, List.getElem_cons_succ, List.getElem_cons_zero] at hK ⊢
            obtain rfl := hW
            go_simp
            exact hK _ _ ⟨Below.refl _ _, rfl, rfl⟩
          | 11, ho, haf =>
            obtain rfl := Option.some.inj ho
            have gg : a9.tmps.getD 43 undef = .bool false := haf ⟨5, .guard⟩ (by simp) rfl
            have f10 := getq (show a9.tmps.getD 48 undef = Value.pointer (some { block := b, off := 0 }) from haf ⟨10, .data⟩ (by simp) rfl)
            refine skip_good _ (wanted_some rfl (yielded_of (d := 43) rfl (by omega) gg)) ?_
            clear haf ho hsz2 gg
            intro K hK
            simp only [List.getElem_toArray, List.getElem_cons_succ, List.getElem_cons_zero] at hK ⊢
            obtain rfl := hW
            go_simp
            exact hK _ _ ⟨Below.refl _ _, rfl, rfl⟩
          | 12, ho, haf =>
            obtain rfl := Option.some.inj ho
            have gg : a9.tmps.getD 43 undef = .bool false := haf ⟨5, .guard⟩ (by simp) rfl
            have f11 := getq (show a9.tmps.getD 49 undef = Value.pointer (some { block := b, off := 0 }) from haf ⟨11, .data⟩ (by simp) rfl)
            refine skip_good _ (wanted_some rfl (yielded_of (d := 43) rfl (by omega) gg)) ?_
            clear haf ho hsz2 gg
            intro K hK
            simp only [List.getElem_toArray, List.getElem_cons_succ, List.getElem_cons_zero] at hK ⊢
            obtain rfl := hW
            go_simp
            exact hK _ _ ⟨Below.refl _ _, rfl, rfl⟩
          | 13, ho, haf =>
            obtain rfl := Option.some.inj ho
            have gg : a9.tmps.getD 43 undef = .bool false := haf ⟨5, .guard⟩ (by simp) rfl
            have f12 := getq (show a9.tmps.getD 50 undef = .pointer (some ⟨b, 2, none⟩) from haf ⟨12, .data⟩ (by simp) rfl)
            refine skip_good _ (wanted_some rfl (yielded_of (d := 43) rfl (by omega) gg)) ?_
            clear haf ho hsz2 gg
            intro K hK
            simp only [List.getElem_toArray, List.getElem_cons_succ, List.getElem_cons_zero] at hK ⊢
            obtain rfl := hW
            have hc := m2.out
            go_simp
            exact hK _ _ ⟨Below.refl _ _, rfl, rfl⟩
          | 14, ho, haf =>
            obtain rfl := Option.some.inj ho
            have gg : a9.tmps.getD 43 undef = .bool false := haf ⟨5, .guard⟩ (by simp) rfl
            have f9 := getq (show a9.tmps.getD 47 undef = .int .i64 ((W.uns : Int) + 1) from haf ⟨9, .data⟩ (by simp) rfl)
            have f13 := getq (show a9.tmps.getD 51 undef = .int .i64 (W.evy : Int) from haf ⟨13, .data⟩ (by simp) rfl)
            refine skip_good _ (wanted_some rfl (yielded_of (d := 43) rfl (by omega) gg)) ?_
            clear haf ho hsz2 gg
            intro K hK
            simp only [List.getElem_toArray, List.getElem_cons_succ, List.getElem_cons_zero] at hK ⊢
            obtain rfl := hW
            go_simp
            exact hK _ _ ⟨Below.refl _ _, rfl, rfl⟩
          | 15, ho, haf =>
            obtain rfl := Option.some.inj ho
            have f5 := getq (show a9.tmps.getD 43 undef = .bool false from haf ⟨5, .data⟩ (by simp) rfl)
            have f14 := getq (show a9.tmps.getD 52 undef = .bool (decide ((W.uns : Int) + 1 < (W.evy : Int))) from haf ⟨14, .data⟩ (by simp) rfl)
            refine skip_good _ (wanted_none rfl) ?_
            clear haf ho hsz2
            intro K hK
            simp only [List.getElem_toArray, List.getElem_cons_succ, List.getElem_cons_zero] at hK ⊢
            obtain rfl := hW
            go_simp
            exact hK _ _ ⟨Below.refl _ _, rfl, rfl⟩
          | n + 16, ho, haf => simp at ho
        · intro aa w9 hW hdf hsz hout hall
          have hat : aa.tmps = #[Value.pointer (some { block := b, off := 0 }), Value.slice ua l.length c, undef, undef, Value.int IntKind.i64 0, Value.int IntKind.i64 0, Value.pointer (some { block := b, off := 0 }), Value.slice ua l.length c, Value.pointer (some { block := b, off := 0 }), Value.pointer (some { block := b, off := 0 }), Value.pointer (some { block := b, off := 0 }), Value.pointer (some { block := d, off := 0 }), Value.func (Fn.func 60) #[Value.pointer (some { block := d, off := 0 })] #[], Value.func (Fn.func 89) #[] #[Value.pointer (some { block := w.heap.size + 1, off := 0 }), Value.pointer (some { block := w.heap.size, off := 0 })], Value.pointer (some { block := b, off := 0 }), Value.pointer (some { block := b, off := 0 }), Value.pointer (some { block := b, off := 4 }), Value.int IntKind.u32 (W.num : Int), Value.int IntKind.i64 0, Value.int IntKind.i64 0, Value.bool false, undef, Value.pointer (some { block := b, off := 0 }), Value.pointer (some { block := b, off := 0 }), Value.pointer (some { block := b, off := 5 }), Value.int IntKind.i64 (W.laid : Int), Value.slice ua l.length c, Value.int IntKind.i64 (l.length : Int), Value.int IntKind.i64 ((W.laid : Int) + (l.length : Int)), Value.pointer (some { block := b, off := 0 }), Value.pointer (some { block := b, off := 5 }), Value.pointer (some { block := b, off := 0 }), Value.pointer (some { block := b, off := 0 }), Value.pointer (some { block := b, off := 6 }), Value.int IntKind.i64 (W.uns : Int), Value.int IntKind.i64 ((W.uns : Int) + 1), Value.pointer (some { block := b, off := 0 }), Value.pointer (some { block := b, off := 6 }), Value.pointer (some { block := b, off := 0 }), Value.pointer (some { block := b, off := 0 }), .pointer (some ⟨b, 2, none⟩), .int .i64 (W.evy : Int), .bool false, .bool false, Value.pointer (some { block := b, off := 0 }), Value.pointer (some { block := b, off := 0 }), .pointer (some ⟨b, 6, none⟩), .int .i64 ((W.uns : Int) + 1), Value.pointer (some { block := b, off := 0 }), Value.pointer (some { block := b, off := 0 }), .pointer (some ⟨b, 2, none⟩), .int .i64 (W.evy : Int), .bool (decide ((W.uns : Int) + 1 < (W.evy : Int))), .bool (decide ((W.uns : Int) + 1 < (W.evy : Int))), undef, undef] := by
            refine arr_one (hsz.trans rfl) fun kk hkk => ?_
            match kk, hkk with
            | 0, _ => exact hout 0 (notDst_spec (by kernel_rfl))
            | 1, _ => exact hout 1 (notDst_spec (by kernel_rfl))
            | 2, _ => exact hout 2 (notDst_spec (by kernel_rfl))
            | 3, _ => exact hout 3 (notDst_spec (by kernel_rfl))
            | 4, _ => exact hout 4 (notDst_spec (by kernel_rfl))
            | 5, _ => exact hout 5 (notDst_spec (by kernel_rfl))
            | 6, _ => exact hout 6 (notDst_spec (by kernel_rfl))
            | 7, _ => exact hout 7 (notDst_spec (by kernel_rfl))
            | 8, _ => exact hout 8 (notDst_spec (by kernel_rfl))
            | 9, _ => exact hout 9 (notDst_spec (by kernel_rfl))
            | 10, _ => exact hout 10 (notDst_spec (by kernel_rfl))
            | 11, _ => exact hout 11 (notDst_spec (by kernel_rfl))
            | 12, _ => exact hout 12 (notDst_spec (by kernel_rfl))
            | 13, _ => exact hout 13 (notDst_spec (by kernel_rfl))
            | 14, _ => exact hout 14 (notDst_spec (by kernel_rfl))
            | 15, _ => exact hout 15 (notDst_spec (by kernel_rfl))
            | 16, _ => exact hout 16 (notDst_spec (by kernel_rfl))
            | 17, _ => exact hout 17 (notDst_spec (by kernel_rfl))
            | 18, _ => exact hout 18 (notDst_spec (by kernel_rfl))
            | 19, _ => exact hout 19 (notDst_spec (by kernel_rfl))
            | 20, _ => exact hout 20 (notDst_spec (by kernel_rfl))
            | 21, _ => exact hout 21 (notDst_spec (by kernel_rfl))
            | 22, _ => exact hout 22 (notDst_spec (by kernel_rfl))
            | 23, _ => exact hout 23 (notDst_spec (by kernel_rfl))
            | 24, _ => exact hout 24 (notDst_spec (by kernel_rfl))
            | 25, _ => exact hout 25 (notDst_spec (by kernel_rfl))
            | 26, _ => exact hout 26 (notDst_spec (by kernel_rfl))
            | 27, _ => exact hout 27 (notDst_spec (by kernel_rfl))
            | 28, _ => exact hout 28 (notDst_spec (by kernel_rfl))
            | 29, _ => exact hout 29 (notDst_spec (by kernel_rfl))
            | 30, _ => exact hout 30 (notDst_spec (by kernel_rfl))
            | 31, _ => exact hout 31 (notDst_spec (by kernel_rfl))
            | 32, _ => exact hout 32 (notDst_spec (by kernel_rfl))
            | 33, _ => exact hout 33 (notDst_spec (by kernel_rfl))
            | 34, _ => exact hout 34 (notDst_spec (by kernel_rfl))
            | 35, _ => exact hout 35 (notDst_spec (by kernel_rfl))
            | 36, _ => exact hout 36 (notDst_spec (by kernel_rfl))
            | 37, _ => exact hout 37 (notDst_spec (by kernel_rfl))
            | 38, _ => exact hall 0 (by decide)
            | 39, _ => exact hall 1 (by decide)
            | 40, _ => exact hall 2 (by decide)
            | 41, _ => exact hall 3 (by decide)
            | 42, _ => exact hall 4 (by decide)
            | 43, _ => exact hall 5 (by decide)
            | 44, _ => exact hall 6 (by decide)
            | 45, _ => exact hall 7 (by decide)
            | 46, _ => exact hall 8 (by decide)
            | 47, _ => exact hall 9 (by decide)
            | 48, _ => exact hall 10 (by decide)
            | 49, _ => exact hall 11 (by decide)
            | 50, _ => exact hall 12 (by decide)
            | 51, _ => exact hall 13 (by decide)
            | 52, _ => exact hall 14 (by decide)
            | 53, _ => exact hall 15 (by decide)
            | 54, _ => exact hout 54 (notDst_spec (by kernel_rfl))
            | 55, _ => exact hout 55 (notDst_spec (by kernel_rfl))
            | n + 56, h => exact absurd h (by simp)
          obtain ⟨tt, dd⟩ := aa
          simp only at hat hdf
          subst hat hdf
          clear hsz hout hall
          obtain rfl := hW
          by_cases hq : (W.uns : Int) + 1 < (W.evy : Int)
          · have hq1 : decide ((W.uns : Int) + 1 < (W.evy : Int)) = true := decide_eq_true hq
            have HQ : Hid (W.uns + 1 < W.evy) := by show W.uns + 1 < W.evy; omega
            rw [hq1]
            clear hq hq1
            go_simp
            go_wp2_with fail
            go_ret
            rw [HX.out.2.1 (by first | rfl | trivial) (.inr HQ.out)]
            exact ⟨rfl, HN10.out⟩
          · have hq1 : decide ((W.uns : Int) + 1 < (W.evy : Int)) = false := decide_eq_false hq
            have HQ : Hid (¬ (W.evy = 0 ∨ W.uns + 1 < W.evy)) := by
              have h1 := he0.out
              show ¬ (W.evy = 0 ∨ W.uns + 1 < W.evy)
              omega
            rw [hq1]
            clear hq hq1
            obtain ⟨O10, hK10, hT10, hO10⟩ := HN10.out
            have HSS := hd (HSY.out _ O10 hK10)
            have HT10 := hd hT10
            have HO10 := hd hO10
            clear hK10 hT10 hO10
            go_simp
            go_wp2_with fail
            refine Calls.mono HSS.out ?_
            rintro e w11 ⟨rfl, hN11⟩
            have HN11 := hd hN11
            clear hN11
            go_wp2_with fail
            go_ret
            rw [HX.out.2.2 (by first | rfl | trivial) HQ.out]
            exact ⟨rfl, Nw.join HT10.out HO10.out HN11.out⟩
    · have z1 : ¬ ((r : Int) = 0) := by omega
      have HZ1 := hd hz
      clear hB9 hz
      go_simp
      go_wp2_with fail
      go_ret
      rw [HX.out.1 HZ1.out]
      exact ⟨rfl, HA9.out⟩
  --END la
end Sg
end Go.Proofs.YtngnbkdfbmhndaaGreat
namespace Go.Proofs.YtngnbkdfbmhndaaGreat
open Go.RowKit
namespace Vt
theorem zeros_jb (w : World) (n cap : Nat) (hn : n ≤ cap) (hm : cap ≤ maxLen) : JB (w.drew.alloc (.cells (Builtin.zeroCells (Value.int .u8 0).cells n ++ Builtin.zeroCells (Value.int .u8 0).cells (cap - n)) 5)) w.heap.size (.slice (some ⟨w.heap.size, 0, none⟩) 0 cap) [] := by
  refine ⟨byt_nil, by simp [bs], .inr ⟨w.heap.size, cap, Builtin.zeroCells (Value.int .u8 0).cells n ++ Builtin.zeroCells (Value.int .u8 0).cells (cap - n), rfl, Nat.le_refl _, ?_, Nat.zero_le _, hm, ?_, by simp [bs]⟩⟩
  · show (w.drew.heap.push _)[w.heap.size]? = _
    rw [show w.heap.size = w.drew.heap.size from rfl, Array.getElem?_push_size]
  · simp [Builtin.zeroCells, Value.cells]; omega
set_option maxRecDepth 100000 in
set_option maxHeartbeats 400000 in
theorem grow_nil (n : Nat) (w : World) (h0 : 0 < n) (hm : n ≤ 140737488355328) :
    Calls Tryz.prog 81 #[.slice none 0 0, .int .i64 (n : Int)] w fun e w' => ∃ cap, e = .returned (.slice (some ⟨w.heap.size, 0, none⟩) 0 cap) ∧ JB w' w.heap.size (.slice (some ⟨w.heap.size, 0, none⟩) 0 cap) [] ∧ Below w.heap.size w w' := by
  obtain ⟨i0, hi, hz0, hz1, hz2⟩ := info_parts info_u8
  have hrun := fun (ty : TypeId) => Lib.run_append_nil_zeros (P := Tryz.prog) w 44 3 ty 5 i0 (.int .u8 0) .i64 .i64 Tryz.underlying44 Tryz.underlying3 hi hz0 n h0 (by omega) (by omega) (by rw [hz2]; omega)
  have hge := grownCap_ge w n 0 5
  have hle := grownCap_le_maxLen w n 0 5 (by unfold maxLen; omega)
  have HJ := hd (zeros_jb w n _ hge hle)
  have hle2 := hle
  unfold maxLen at hle2
  generalize grownCap w n 0 5 = cap at *
  have HB : Hid (Below w.heap.size w (w.drew.alloc (.cells (Builtin.zeroCells (Value.int .u8 0).cells n ++ Builtin.zeroCells (Value.int .u8 0).cells (cap - n)) 5))) := (below_drewN (Below.refl _ _) 1).alloc (Nat.le_refl _) _
  generalize (w.drew.alloc (.cells (Builtin.zeroCells (Value.int .u8 0).cells n ++ Builtin.zeroCells (Value.int .u8 0).cells (cap - n)) 5)) = w1 at *
  go_enter Tryz.func81, Tryz.ntmps81
  go_wp2_with (at_builtin; refine Lib.wpList_append_run _ rfl _ _ _ _ rfl _ _ rfl rfl _ _ (hrun _) ?_)
  go_ret
  exact ⟨cap, rfl, HJ.out, HB.out⟩
/-- a slice of slices of bytes -/
def Ps (w : World) (b off : Nat) (ls : List (List Nat)) : Prop := ∀ i, i < ls.length → ∃ v, w.cell? ⟨b, off + i, none⟩ = some v ∧ IsB w v (ls.getD i [])
theorem ps_succ {ls : List (List Nat)} {k : Nat} (h : k < ls.length) : (ls.take (k + 1)).flatten = (ls.take k).flatten ++ ls.getD k [] := by
  rw [List.take_succ_eq_append_getElem h, List.getD_eq_getElem?_getD, List.getElem?_eq_getElem h, List.flatten_append]; simp
theorem ps_le (ls : List (List Nat)) (k : Nat) : (ls.take k).flatten.length ≤ ls.flatten.length := by
  have : ls.flatten = (ls.take k).flatten ++ (ls.drop k).flatten := by rw [← List.flatten_append, List.take_append_drop]
  rw [this, List.length_append]; omega
set_option maxRecDepth 100000 in
set_option maxHeartbeats 400000 in
theorem concat_row (b off c : Nat) (ls : List (List Nat)) (w : World) (hb : b < w.heap.size) (hn : ls.length ≤ 1000) (hP : Ps w b off ls) (h0 : 0 < ls.flatten.length) (hm : ls.flatten.length ≤ 140737488355328) :
    Calls Tryz.prog 54 #[.slice (some ⟨b, off, none⟩) ls.length c] w fun e w' => ∃ u, e = .returned u ∧ JB w' w.heap.size u ls.flatten ∧ Below w.heap.size w w' := by
  have HP := hd hP
  clear hP
  have HG := hd (grow_nil ls.flatten.length w h0 hm)
  have HPS := hd (ps_le ls)
  generalize hT : ls.flatten.length = T at *
  have HT := hd hT
  clear hT
  go_enter Tryz.func54, Tryz.ntmps54
  go_wp2_with fail
  go_loop [3, 11] (fun s i => ∃ k : Nat, k ≤ ls.length ∧ i = .int .i64 (k : Int) ∧ s = .int .i64 (((ls.take k).flatten.length : Nat) : Int)) (fun _ i => ls.length - (intOf i).toNat)
  case atStart => exact ⟨0, by omega, rfl, rfl⟩
  case round =>
    obtain ⟨k, hk, rfl, rfl⟩ := hrel
    by_cases hlt : k < ls.length
    · obtain ⟨v, hv, hB⟩ := HP.out k hlt
      have he := congrArg List.length (ps_succ hlt)
      have hle := HPS.out (k + 1)
      rw [List.length_append] at he
      rw [he] at hle
      have HE := hd he
      clear he
      obtain ⟨a, c', e⟩ := hB.shape
      subst e
      clear hB
      generalize (ls.take k).flatten.length = s at *
      generalize (ls.getD k []).length = d at *
      go_wp2_with fail
      go_round
      case rel => exact ⟨k + 1, hlt, by go_num, by rw [HE.out]; rfl⟩
      case measure => simp [intOf]; omega
    · obtain rfl : k = ls.length := by omega
      rw [List.take_length, HT.out]
      go_wp2_with fail
      refine Calls.mono HG.out ?_
      rintro e w1 ⟨cap, rfl, hJ1, hB1⟩
      have HJ1 := hd hJ1
      have HB1 := hd hB1
      clear hJ1 hB1 HG
      go_wp2_with fail
      go_loopw [6, 27] (fun v i wr => ∃ k : Nat, k ≤ ls.length ∧ i = .int .i64 (k : Int) ∧ JB wr w.heap.size v (ls.take k).flatten ∧ Below w.heap.size w wr) (fun _ i _ => ls.length - (intOf i).toNat)
      case atStart => exact ⟨0, by omega, rfl, HJ1.out, HB1.out⟩
      case round =>
        obtain ⟨k, hk, rfl, hJ, hBB⟩ := hrel
        have HJ := hd hJ
        have HBB := hd hBB
        clear hJ hBB HJ1 HB1
        by_cases hlt : k < ls.length
        · obtain ⟨u, hv, hB⟩ := HP.out k hlt
          have HI := hd (hB.below HBB.out)
          have hc : wr.cell? ⟨b, off + k, none⟩ = some u := by rw [HBB.out.cell hb]; exact hv
          have HE := hd (ps_succ hlt)
          have hle := HPS.out (k + 1)
          have hl2 := congrArg List.length HE.out
          rw [List.length_append] at hl2
          have hsz := HBB.out.size
          clear hv hB
          obtain ⟨R, hR⟩ : ∃ R, R = (ls.take (k + 1)).flatten := ⟨_, rfl⟩
          obtain ⟨A, hA⟩ : ∃ A, A = (ls.take k).flatten := ⟨_, rfl⟩
          obtain ⟨D, hD⟩ : ∃ D, D = ls.getD k [] := ⟨_, rfl⟩
          rw [← hR, ← hA, ← hD] at HE
          rw [← hR] at hle hl2
          rw [← hA, ← hD] at hl2
          rw [← hA] at HJ
          rw [← hD] at HI
          have HR := hd hR
          clear hR hA hD
          go_wp2_with (at_builtin; refine wpList_append_jb _ rfl _ _ rfl w.heap.size _ _ _ _ rfl rfl HJ.out HI.out _ hl2.symm _ HE.out.symm (by omega) hsz ?_; intro a2 cap2 w2 hJ2 hg2 hc2)
          have HJ2 := hd hJ2
          have HB2 := hd (HJ.out.grown HBB.out (Nat.le_refl _) hsz hg2)
          clear hJ2 hg2
          go_roundw
          case rel => exact ⟨k + 1, hlt, by go_num, by rw [← HR.out]; have := HJ2.out; rw [hl2] at this; exact this, HB2.out⟩
          case measure => simp [intOf]; omega
        · obtain rfl : k = ls.length := by omega
          rw [List.take_length] at HJ
          go_wp2_with fail
          go_ret
          exact ⟨_, rfl, HJ.out, HBB.out⟩
end Vt
end Go.Proofs.YtngnbkdfbmhndaaGreat
namespace Go.Proofs.YtngnbkdfbmhndaaGreat
namespace Vt
def e1 (c : Nat) : List Nat := if c = 167 then [166, 1] else if c = 166 then [166, 0] else [c]
def wr : List Nat → List Nat
  | [] => []
  | c :: r => e1 c ++ wr r
theorem e1_lead : e1 167 = [166, 1] := rfl
theorem e1_esc : e1 166 = [166, 0] := rfl
theorem e1_any {c : Nat} (h : c ≠ 167) (h2 : c ≠ 166) : e1 c = [c] := by unfold e1; rw [if_neg h, if_neg h2]
theorem wr_append (a b : List Nat) : wr (a ++ b) = wr a ++ wr b := by
  induction a with
  | nil => rfl
  | cons c r ih => rw [List.cons_append, wr, wr, ih, List.append_assoc]
theorem wr_one (c : Nat) : wr [c] = e1 c := by simp [wr]
theorem wr_succ {l : List Nat} {k : Nat} (h : k < l.length) : wr (l.take (k + 1)) = wr (l.take k) ++ e1 (l.getD k 0) := by
  rw [take_succ_getD h, wr_append, wr_one]
theorem e1_len (c : Nat) : 1 ≤ (e1 c).length ∧ (e1 c).length ≤ 2 := by
  unfold e1
  split
  · simp
  · split <;> simp
theorem wr_len (l : List Nat) : l.length ≤ (wr l).length ∧ (wr l).length ≤ 2 * l.length := by
  induction l with
  | nil => simp [wr]
  | cons c r ih =>
    have := e1_len c
    rw [wr, List.length_append, List.length_cons]; omega
theorem e1_byt {c : Nat} (h : c < 256) : Byt (e1 c) := by
  unfold e1
  split
  · intro x hx; simp at hx; omega
  · split
    · intro x hx; simp at hx; omega
    · intro x hx; simp at hx; omega
theorem wr_byt {l : List Nat} (h : Byt l) : Byt (wr l) := by
  induction l with
  | nil => exact byt_nil
  | cons c r ih => rw [wr]; exact byt_app (e1_byt (h c List.mem_cons_self)) (ih fun x hx => h x (List.mem_cons_of_mem _ hx))
theorem e1_no (c : Nat) : ∀ x ∈ e1 c, x ≠ 167 := by
  unfold e1
  split
  · intro x hx; simp at hx; omega
  · split
    · intro x hx; simp at hx; omega
    · intro x hx; simp at hx; omega
theorem wr_no (l : List Nat) : ∀ x ∈ wr l, x ≠ 167 := by
  induction l with
  | nil => intro x hx; simp [wr] at hx
  | cons c r ih =>
    intro x hx
    rw [wr] at hx
    rcases List.mem_append.1 hx with hx | hx
    · exact e1_no c x hx
    · exact ih x hx
theorem wr_no_at {l : List Nat} {k : Nat} (h : k < (wr l).length) : (wr l).getD k 0 ≠ 167 := by
  apply wr_no l
  rw [List.getD_eq_getElem?_getD, List.getElem?_eq_getElem h]
  exact List.getElem_mem h
/-- the plain byte at the front, how many bytes it takes, what is wrong -/
def fs (l : List Nat) : Nat × Nat × Nat :=
  if l.getD 0 0 = 167 then (0, 0, 31) else if l.getD 0 0 ≠ 166 then (l.getD 0 0, 1, 0) else if l.length = 1 then (0, 0, 32)
  else if l.getD 1 0 = 0 then (166, 2, 0) else if l.getD 1 0 = 1 then (167, 2, 0) else (0, 0, 32)
/-- what is told: the places from at_ on -/
def told : Nat → Nat → List Nat → List (Nat × Nat)
  | 0, _, _ => []
  | f + 1, at_, l => if l = [] then [] else if (fs l).2.2 = 0 then (at_, (fs l).1) :: told f (at_ + (fs l).2.1) (l.drop (fs l).2.1) else []
/-- what is wrong, and where -/
def bad : Nat → Nat → List Nat → Nat × Nat
  | 0, _, _ => (0, 0)
  | f + 1, at_, l => if l = [] then (0, 0) else if (fs l).2.2 = 0 then bad f (at_ + (fs l).2.1) (l.drop (fs l).2.1) else ((fs l).2.2, at_)
theorem fs_front (c : Nat) (r : List Nat) : fs (e1 c ++ r) = (c, (e1 c).length, 0) := by
  by_cases h : c = 167
  · subst h; simp [e1, fs]
  · by_cases h2 : c = 166
    · subst h2; simp [e1, fs]
    · rw [e1_any h h2]; simp [fs, h, h2]
theorem fs_ok {l : List Nat} (hne : l ≠ []) (h : (fs l).2.2 = 0) : l = e1 (fs l).1 ++ l.drop (fs l).2.1 ∧ (fs l).2.1 = (e1 (fs l).1).length := by
  match l, hne with
  | [c], _ =>
    unfold fs at *
    by_cases h1 : c = 167
    · simp [h1] at h
    · by_cases h2 : c = 166
      · simp [h2] at h
      · simp [h1, h2, e1_any h1 h2]
  | c :: d :: r, _ =>
    unfold fs at *
    by_cases h1 : c = 167
    · simp [h1] at h
    · by_cases h2 : c = 166
      · by_cases h3 : d = 0
        · simp [h2, h3, e1]
        · by_cases h4 : d = 1
          · simp [h2, h4, e1]
          · simp [h2, h3, h4] at h
      · simp [h1, h2, e1_any h1 h2]
theorem fs_len {l : List Nat} (hne : l ≠ []) (h : (fs l).2.2 = 0) : 1 ≤ (fs l).2.1 ∧ (fs l).2.1 ≤ l.length ∧ (fs l).2.1 ≤ 2 := by
  have h1 := fs_ok hne h
  have h2 := e1_len (fs l).1
  have h3 := congrArg List.length h1.1
  rw [List.length_append] at h3
  omega
theorem fs_byt {l : List Nat} (hb : Byt l) : (fs l).1 < 256 := by
  have := getD_lt hb 0
  unfold fs
  repeat' split
  all_goals (simp only; omega)
theorem fs_err (l : List Nat) : (fs l).2.2 = 0 ∨ (fs l).2.2 = 31 ∧ l.getD 0 0 = 167 ∨ (fs l).2.2 = 32 ∧ l.getD 0 0 = 166 := by
  unfold fs
  by_cases h1 : l.getD 0 0 = 167
  · rw [if_pos h1]; exact .inr (.inl ⟨rfl, h1⟩)
  · rw [if_neg h1]
    by_cases h2 : l.getD 0 0 = 166
    · rw [if_neg (by simpa using h2)]
      repeat' split
      all_goals first | exact .inl rfl | exact .inr (.inr ⟨rfl, h2⟩)
    · rw [if_pos h2]; simp
theorem fs_bad {l : List Nat} (h : (fs l).2.2 ≠ 0) : (fs l).1 = 0 ∧ (fs l).2.1 = 0 := by
  unfold fs at *
  repeat' split at h
  all_goals first | (exact absurd rfl h) | skip
  all_goals simp_all
def toldB (at_ : Nat) (l : List Nat) : List (Nat × Nat) := told l.length at_ l
def badB (at_ : Nat) (l : List Nat) : Nat × Nat := bad l.length at_ l
theorem told_fuel (f : Nat) : ∀ (g at_ : Nat) (l : List Nat), l.length ≤ f → l.length ≤ g → told f at_ l = told g at_ l ∧ bad f at_ l = bad g at_ l := by
  induction f with
  | zero =>
    intro g at_ l h1 h2
    obtain rfl : l = [] := List.length_eq_zero_iff.1 (by omega)
    cases g with
    | zero => exact ⟨rfl, rfl⟩
    | succ g => simp [told, bad]
  | succ f ih =>
    intro g at_ l h1 h2
    cases g with
    | zero =>
      obtain rfl : l = [] := List.length_eq_zero_iff.1 (by omega)
      simp [told, bad]
    | succ g =>
      unfold told bad
      by_cases h : l = []
      · simp [h]
      · rw [if_neg h, if_neg h, if_neg h, if_neg h]
        by_cases he : (fs l).2.2 = 0
        · have := fs_len h he
          have hh := ih g (at_ + (fs l).2.1) (l.drop (fs l).2.1) (by rw [List.length_drop]; omega) (by rw [List.length_drop]; omega)
          rw [if_pos he, if_pos he, if_pos he, if_pos he, hh.1, hh.2]; exact ⟨rfl, rfl⟩
        · rw [if_neg he, if_neg he, if_neg he, if_neg he]; exact ⟨rfl, rfl⟩
theorem toldB_nil (at_ : Nat) : toldB at_ [] = [] := rfl
theorem badB_nil (at_ : Nat) : badB at_ [] = (0, 0) := rfl
theorem toldB_ok {at_ : Nat} {l : List Nat} (h : l ≠ []) (he : (fs l).2.2 = 0) : toldB at_ l = (at_, (fs l).1) :: toldB (at_ + (fs l).2.1) (l.drop (fs l).2.1) := by
  have hd := fs_len h he
  obtain ⟨m, hm⟩ : ∃ m, l.length = m + 1 := ⟨l.length - 1, by omega⟩
  unfold toldB
  rw [hm, told, if_neg h, if_pos he, (told_fuel m _ _ _ (by rw [List.length_drop]; omega) (Nat.le_refl _)).1]
theorem badB_ok {at_ : Nat} {l : List Nat} (h : l ≠ []) (he : (fs l).2.2 = 0) : badB at_ l = badB (at_ + (fs l).2.1) (l.drop (fs l).2.1) := by
  have hd := fs_len h he
  obtain ⟨m, hm⟩ : ∃ m, l.length = m + 1 := ⟨l.length - 1, by omega⟩
  unfold badB
  rw [hm, bad, if_neg h, if_pos he, (told_fuel m _ _ _ (by rw [List.length_drop]; omega) (Nat.le_refl _)).2]
theorem toldB_err {at_ : Nat} {l : List Nat} (he : (fs l).2.2 ≠ 0) : toldB at_ l = [] := by
  unfold toldB
  cases l with
  | nil => rfl
  | cons x r => rw [List.length_cons, told, if_neg (by simp), if_neg he]
theorem badB_err {at_ : Nat} {l : List Nat} (h : l ≠ []) (he : (fs l).2.2 ≠ 0) : badB at_ l = ((fs l).2.2, at_) := by
  unfold badB
  cases l with
  | nil => exact absurd rfl h
  | cons x r => rw [List.length_cons, bad, if_neg (by simp), if_neg he]
/-- plain bytes with the places of what they are written as -/
def pl : Nat → List Nat → List (Nat × Nat)
  | _, [] => []
  | p, c :: r => (p, c) :: pl (p + (e1 c).length) r
theorem e1_ne (c : Nat) (r : List Nat) : e1 c ++ r ≠ [] := by
  have := e1_len c
  intro e
  have := congrArg List.length e
  rw [List.length_append, List.length_nil] at this
  omega
theorem both_wr (p r : List Nat) : ∀ at_, toldB at_ (wr p ++ r) = pl at_ p ++ toldB (at_ + (wr p).length) r ∧ badB at_ (wr p ++ r) = badB (at_ + (wr p).length) r := by
  induction p with
  | nil => intro at_; exact ⟨rfl, rfl⟩
  | cons c q ih =>
    intro at_
    have hf := fs_front c (wr q ++ r)
    have hne := e1_ne c (wr q ++ r)
    rw [wr, List.append_assoc, toldB_ok hne (by rw [hf]), badB_ok hne (by rw [hf]), hf]
    simp only
    rw [List.drop_left' rfl, (ih _).1, (ih _).2, pl, List.length_append, Nat.add_assoc]
    exact ⟨rfl, rfl⟩
theorem toldB_wr (p : List Nat) (at_ : Nat) : toldB at_ (wr p) = pl at_ p := by
  have := (both_wr p [] at_).1
  rwa [List.append_nil, toldB_nil, List.append_nil] at this
theorem badB_wr (p : List Nat) (at_ : Nat) : badB at_ (wr p) = (0, 0) := by
  have := (both_wr p [] at_).2
  rwa [List.append_nil, badB_nil] at this
theorem pl_len (at_ : Nat) (p : List Nat) : (pl at_ p).length = p.length := by
  induction p generalizing at_ with
  | nil => rfl
  | cons c r ih => simp [pl, ih]
theorem pl_snd (at_ : Nat) (p : List Nat) : (pl at_ p).map Prod.snd = p := by
  induction p generalizing at_ with
  | nil => rfl
  | cons c r ih => simp [pl, ih]
theorem pl_at (p : Nat) (l : List Nat) (k : Nat) (hk : k < l.length) : (pl p l)[k]? = some (p + (wr (l.take k)).length, l.getD k 0) := by
  induction l generalizing p k with
  | nil => simp at hk
  | cons x r ih =>
    cases k with
    | zero => simp [pl, wr]
    | succ k =>
      rw [pl, List.getElem?_cons_succ, ih _ k (by simpa using hk), List.take_succ_cons, wr, List.length_append, List.getD_cons_succ, Nat.add_assoc]
/-- whatever bytes: escaped ones, and behind them nothing, or what cannot stand -/
theorem parts (n : Nat) : ∀ l : List Nat, l.length ≤ n → ∃ p r, l = wr p ++ r ∧ (r = [] ∨ r ≠ [] ∧ (fs r).2.2 ≠ 0) := by
  induction n with
  | zero => intro l h; exact ⟨[], [], List.length_eq_zero_iff.1 (by omega), .inl rfl⟩
  | succ n ih =>
    intro l h
    by_cases h0 : l = []
    · exact ⟨[], [], h0, .inl rfl⟩
    · by_cases he : (fs l).2.2 = 0
      · have h1 := fs_len h0 he
        have h2 := fs_ok h0 he
        obtain ⟨p, r, e, hr⟩ := ih (l.drop (fs l).2.1) (by rw [List.length_drop]; omega)
        refine ⟨(fs l).1 :: p, r, ?_, hr⟩
        rw [wr, List.append_assoc, ← e]; exact h2.1
      · exact ⟨[], l, rfl, .inr ⟨h0, he⟩⟩
theorem part (l : List Nat) : ∃ p r, l = wr p ++ r ∧ (r = [] ∨ r ≠ [] ∧ (fs r).2.2 ≠ 0) := parts _ l (Nat.le_refl _)
theorem part_byt {p r l : List Nat} (h : l = wr p ++ r) (hb : Byt l) : Byt p := by
  induction p generalizing l with
  | nil => exact byt_nil
  | cons c q ih =>
    intro x hx
    rw [wr, List.append_assoc] at h
    rcases List.mem_cons.1 hx with rfl | hx
    · have h1 := e1_len x
      by_cases h2 : x = 167
      · omega
      · by_cases h3 : x = 166
        · omega
        · rw [e1_any h2 h3] at h; exact hb x (by rw [h]; simp)
    · exact ih (l := wr q ++ r) rfl (fun y hy => hb y (by rw [h]; exact List.mem_append_right _ hy)) x hx
/-- .. what is told of such bytes -/
theorem part_fine {p : List Nat} : toldB 0 (wr p ++ []) = pl 0 p ∧ badB 0 (wr p ++ []) = (0, 0) := by
  rw [List.append_nil]; exact ⟨toldB_wr p 0, badB_wr p 0⟩
theorem part_bad {p r : List Nat} (h : r ≠ []) (he : (fs r).2.2 ≠ 0) : toldB 0 (wr p ++ r) = pl 0 p ∧ badB 0 (wr p ++ r) = ((fs r).2.2, (wr p).length) := by
  have := both_wr p r 0
  rw [toldB_err he, badB_err h he, List.append_nil, Nat.zero_add] at this
  exact this
theorem toldB_len (at_ : Nat) (l : List Nat) : (toldB at_ l).length ≤ l.length := by
  have key : ∀ f at_ l, (told f at_ l).length ≤ f := by
    intro f
    induction f with
    | zero => intro at_ l; simp [told]
    | succ f ih =>
      intro at_ l
      unfold told
      split
      · simp
      · split
        · rw [List.length_cons]; have := ih (at_ + (fs l).2.1) (l.drop (fs l).2.1); omega
        · simp
  exact key _ _ _
/-- the plain bytes of escaped ones -/
def plain (l : List Nat) : List Nat := (toldB 0 l).map Prod.snd
theorem plain_len (l : List Nat) : (plain l).length ≤ l.length := by
  unfold plain; rw [List.length_map]; exact toldB_len 0 l
theorem plain_byt {l : List Nat} (hb : Byt l) : Byt (plain l) := by
  obtain ⟨p, r, e, h⟩ := part l
  have hp := part_byt e hb
  subst e
  unfold plain
  rcases h with rfl | ⟨h1, h2⟩
  · rw [part_fine.1, pl_snd]; exact hp
  · rw [(part_bad h1 h2).1, pl_snd]; exact hp
theorem plain_wr (p : List Nat) : plain (wr p) = p := by unfold plain; rw [toldB_wr, pl_snd]
/-- what is opened comes, wrapped, to what was opened -/
theorem only {l : List Nat} (h : (badB 0 l).1 = 0) : wr (plain l) = l := by
  obtain ⟨p, r, e, hr⟩ := part l
  subst e
  rcases hr with rfl | ⟨h1, h2⟩
  · rw [List.append_nil, plain_wr]
  · rw [(part_bad h1 h2).2] at h; exact absurd h h2
theorem badB_place {l : List Nat} (h : (badB 0 l).1 ≠ 0) : (badB 0 l).2 < l.length ∧ ((badB 0 l).1 = 31 ∧ l.getD (badB 0 l).2 0 = 167 ∨ (badB 0 l).1 = 32 ∧ l.getD (badB 0 l).2 0 = 166) := by
  obtain ⟨p, r, e, hr⟩ := part l
  subst e
  rcases hr with rfl | ⟨h1, h2⟩
  · rw [part_fine.2] at h; exact absurd rfl h
  · rw [(part_bad h1 h2).2]
    simp only
    have hpos : 0 < r.length := List.length_pos_iff.2 h1
    refine ⟨by rw [List.length_append]; omega, ?_⟩
    have hg : (wr p ++ r).getD (wr p).length 0 = r.getD 0 0 := by
      rw [List.getD_eq_getElem?_getD, List.getElem?_append_right (Nat.le_refl _), Nat.sub_self, List.getD_eq_getElem?_getD]
    rw [hg]
    rcases fs_err r with h3 | h3 | h3
    · exact absurd h3 h2
    · exact .inl h3
    · exact .inr h3
theorem badB_zero {l : List Nat} (h : (badB 0 l).1 = 0) : badB 0 l = (0, 0) := by
  obtain ⟨p, r, e, hr⟩ := part l
  subst e
  rcases hr with rfl | ⟨h1, h2⟩
  · exact part_fine.2
  · rw [(part_bad h1 h2).2] at h; exact absurd h h2
end Vt
end Go.Proofs.YtngnbkdfbmhndaaGreat
