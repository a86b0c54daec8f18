/-
  FRAMES OF RAW RECORDS LAID AMONG JUNK: the theorems' own junkOf and laid.
-/
import Derived.Test.YtlddogigbodilaaNbm
import Derived.Test.YtlddogigbodilaaNbo
import Derived.Test.YtlddogigbodilaaNbp
import Derived.Test.YtlddogigbodilaaNbr
import Derived.Test.YtlddogigbodilaaNbt
namespace Go.Proofs.Ytlddogigbodilaa
open Go.RowKit Go.Shelf
namespace Vt
structure Rw4 where
  k : Int
  y : Int
  v : Int
  n : Int
def wcl (x : Rw4) : List Value := [.int .i64 x.k, .int .i64 x.y, .int .i64 x.v, .int .i64 x.n]
def Rw4.Ok (x : Rw4) : Prop := (Lit.int .i64 x.k).wf = true ∧ (Lit.int .i64 x.y).wf = true ∧ (Lit.int .i64 x.v).wf = true ∧ (Lit.int .i64 x.n).wf = true
/-- a slice of raw records that came in -/
def IsRw (w : World) (v : Value) (l : List Rw4) : Prop :=
  (∀ x ∈ l, x.Ok) ∧ ((l = [] ∧ ∃ a c, v = .slice a 0 c) ∨ ∃ b off c, v = .slice (some ⟨b, off, none⟩) l.length c ∧ l.length ≤ c ∧ c ≤ maxLen ∧ b < w.heap.size ∧ ∀ i x, l[i]? = some x → ∀ j u, (wcl x)[j]? = some u → w.cell? ⟨b, off + i * 4 + j, none⟩ = some u)
theorem IsRw.shape {w : World} {v : Value} {l : List Rw4} (h : IsRw w v l) : ∃ a c, v = .slice a l.length c := by
  rcases h.2 with ⟨rfl, a, c, h⟩ | ⟨b, off, c, h, _⟩
  · exact ⟨a, c, h⟩
  · exact ⟨_, c, h⟩
theorem IsRw.below {w w' : World} {v : Value} {rs : List Rw4} (h : IsRw w v rs) (hb : Below w.heap.size w w') : IsRw w' v rs := by
  refine ⟨h.1, ?_⟩
  rcases h.2 with h | ⟨b, off, c, h1, h2, h3, h4, h5⟩
  · exact .inl h
  · exact .inr ⟨b, off, c, h1, h2, h3, Nat.lt_of_lt_of_le h4 hb.size, fun i r hr j u hu => (World.cell?_of_block (hb.block b h4)).trans (h5 i r hr j u hu)⟩
/-- a row of ints of the call's own -/
abbrev JI (w : World) (base : Nat) (v : Value) (l : List Nat) : Prop := JK .i64 9223372036854775808 3 w base v l
/-- what is no lead byte -/
def jnk (l : List Nat) : List Nat := l.filter fun x => x != 167
theorem jnk_no (l : List Nat) : ∀ x ∈ jnk l, x ≠ 167 := fun x hx => by
  have := (List.mem_filter.1 hx).2
  simpa using this
theorem jnk_byt {l : List Nat} (h : Byt l) : Byt (jnk l) := fun x hx => h x (List.mem_filter.1 hx).1
theorem jnk_take {l : List Nat} {t : Nat} (h : t < l.length) : jnk (l.take (t + 1)) = if l.getD t 0 = 167 then jnk (l.take t) else jnk (l.take t) ++ [l.getD t 0] := by
  unfold jnk
  rw [List.take_succ_eq_append_getElem h, List.filter_append, List.getD_eq_getElem?_getD, List.getElem?_eq_getElem h]
  by_cases e : l[t] = 167
  · simp [e]
  · simp [e]
theorem jnk_len (l : List Nat) : (jnk l).length ≤ l.length := List.length_filter_le _ _
set_option maxRecDepth 100000 in
set_option maxHeartbeats 1000000 in
theorem junkOf_is (v : Value) (l : List Nat) (w : World) (hI : IsB w v l) :
    Calls Try.prog 57 #[v] w fun e w' => ∃ u, e = .returned u ∧ JB w' w.heap.size u (jnk (l.take 200)) ∧ Below w.heap.size w w' := by
  obtain ⟨a, c, rfl⟩ := hI.shape
  have HI := hd hI
  clear hI
  go_enter Try.func57, Try.ntmps57
  go_wp2_with fail
  go_loopw [3, 4] (fun o i wr => ∃ t : Nat, t ≤ l.length ∧ t ≤ 200 ∧ i = .int .i64 (t : Int) ∧ JB wr w.heap.size o (jnk (l.take t)) ∧ Below w.heap.size w wr) (fun _ i _ => l.length - (intOf i).toNat)
  case atStart => exact ⟨0, by omega, by omega, rfl, by rw [List.take_zero]; exact jk_nil _ _, Below.refl _ _⟩
  case round =>
    obtain ⟨t, ht, ht2, rfl, hB, hbe⟩ := hrel
    have HBB := hd hB
    have HBE := hd hbe
    obtain ⟨ba, bc, rfl, hbc⟩ := JK.shape (k := .u8) (M := 256) (E := 5) hB
    have hsz := hbe.size
    by_cases hgo : t < l.length ∧ t < 200
    · obtain ⟨ht1, ht3⟩ := hgo
      obtain ⟨hy, _, ⟨e, _⟩ | ⟨mb, mo, mc2, e, _, _, hmb, hrow⟩⟩ := HI.out
      · rw [e] at ht1; simp at ht1
      injection e with e1 e2 e3
      subst e1 e3
      have hx : wr.cell? ⟨mb, mo + t, none⟩ = some (.int .u8 ((l.getD t 0 : Nat) : Int)) := by rw [hbe.cell (p := ⟨mb, mo + t, none⟩) hmb]; exact hrow t ht1
      have hxl := getD_lt hy t
      have HST := hd (jnk_take ht1)
      have hjl := jnk_len (l.take t)
      rw [List.length_take] at hjl
      obtain ⟨bs, hbs⟩ : ∃ bs, bs = jnk (l.take t) := ⟨_, rfl⟩
      obtain ⟨y, hye⟩ : ∃ y, y = l.getD t 0 := ⟨_, rfl⟩
      rw [← hye] at hx hxl HST
      rw [← hbs] at HST HBB hjl hbc ⊢
      have hbl : bs.length ≤ 200 := by omega
      clear hB hbe hye hrow hy hbs hjl
      by_cases h167 : y = 167
      · subst h167
        go_wp2_with fail
        go_roundw
        case rel => exact ⟨t + 1, ht1, by omega, by go_num, by rw [HST.out, if_pos rfl]; exact HBB.out, HBE.out⟩
        case measure => simp [intOf]; omega
      · have hny : ((y : Int) != 167) = true := by simp; omega
        have HNE := hd h167
        clear h167
        go_wp2_with (at_builtin; refine wpList_append_jk Try.underlying22 info_u8 _ rfl _ _ rfl w.heap.size (.slice ba bs.length bc) (.slice (some ⟨wr.heap.size, 0, none⟩) 1 1) bs [y] rfl rfl (JK.keepAll (k := .u8) (M := 256) (E := 5) HBB.out ((Below.refl _ _).alloc (Nat.le_refl _) _)) (lit_isK .u8 256 wr #[.int .u8 (y : Int)] 5 [y] 1 rfl rfl (by simpa using hxl) (by simp [maxLen])) (bs.length + 1) rfl (bs ++ [y]) rfl (by omega) (by omega) (by rw [World.size_alloc]; omega) ?_; intro a10 c10 w10 hj10 hg10 hk10 hc10; have HJB := hd hj10; have HE10 := hd ((HBE.out.alloc hsz _).grown hg10 (by rw [World.size_alloc]; omega) (fun q hq => JK.blk_ge (k := .u8) (M := 256) (E := 5) HBB.out q hq)); clear hj10 hg10 hk10)
        go_roundw
        case rel => exact ⟨t + 1, ht1, by omega, by go_num, by rw [HST.out, if_neg HNE.out]; exact HJB.out, HE10.out⟩
        case measure => simp [intOf]; omega
    · have HE : Hid (jnk (l.take 200) = jnk (l.take t)) := by
        show jnk (l.take 200) = jnk (l.take t)
        by_cases h : t < l.length
        · rw [show t = 200 by omega]
        · rw [List.take_of_length_le (show l.length ≤ 200 by omega), List.take_of_length_le (by omega)]
      obtain ⟨bs, hbs⟩ : ∃ bs, bs = jnk (l.take t) := ⟨_, rfl⟩
      rw [← hbs] at HBB hbc HE ⊢
      clear hbs hB hbe
      have hno : ¬ t < l.length ∨ (t < l.length ∧ ¬ t < 200) := by omega
      clear hgo
      rcases hno with h1 | ⟨h1, h2⟩
      all_goals
        go_wp2_with fail
        go_ret
        exact ⟨_, rfl, by rw [HE.out]; exact HBB.out, HBE.out⟩
/-- the frames of raw records, with numbers from 1 on -/
def frs (l : List Rw4) : List Fr := l.mapIdx fun i x => ofR (rcQ x.k x.y x.v (i + 1))
theorem frs_len (l : List Rw4) : (frs l).length = l.length := by unfold frs; rw [List.length_mapIdx]
theorem frs_take {l : List Rw4} {k : Nat} {x : Rw4} (h : l[k]? = some x) : (frs l).take (k + 1) = (frs l).take k ++ [ofR (rcQ x.k x.y x.v (k + 1))] := by
  have hk : k < (frs l).length := by rw [frs_len]; exact (List.getElem?_eq_some_iff.1 h).1
  rw [List.take_succ_eq_append_getElem hk]
  congr 2
  have : (frs l)[k]? = some (ofR (rcQ x.k x.y x.v (k + 1))) := by unfold frs; rw [List.getElem?_mapIdx, h]; rfl
  rw [List.getElem?_eq_getElem hk] at this
  exact Option.some.inj this
theorem frs_fit (l : List Rw4) (hl : l.length ≤ 1000000) : Fit (frs l) := by
  intro f hf
  unfold frs at hf
  obtain ⟨i, hi, rfl⟩ := List.mem_mapIdx.1 hf
  obtain ⟨h1, h2, h3, h4⟩ := rcQ_may (l[i]).k (l[i]).y (l[i]).v (n := i + 1) (by omega) (by omega)
  exact ⟨h2, h3⟩
theorem ens_snoc (fs : List Fr) (f : Fr) : ens (fs ++ [f]) = ens fs ++ en f := by unfold ens; simp
theorem Mk.junks {bs : List Nat} {wn : List Lc} (h : Mk bs wn) {j : List Nat} (hb : Byt j) (hj : ∀ x ∈ j, x ≠ 167) : Mk (bs ++ j) wn := by
  induction j generalizing bs with
  | nil => simpa using h
  | cons x r ih =>
    have := ih (h.junk (x := x) (hb x List.mem_cons_self) (hj x List.mem_cons_self)) (fun y hy => hb y (List.mem_cons_of_mem _ hy)) (fun y hy => hj y (List.mem_cons_of_mem _ hy))
    simpa using this
/-- what has been laid: the bytes, the places, how much junk -/
structure Lay (l : List Rw4) (js : List (List Nat)) (k : Nat) (bs : List Nat) (wn : List Lc) (nn : Nat) : Prop where
  mks : Mk bs wn
  fr : wn.map (fun x => x.2.2) = (frs l).take k
  sum : nn + sml wn = bs.length
  len : bs.length ≤ 1700 * k
  cl : nn = 0 → bs = ens ((frs l).take k)
  no : js = [] → nn = 0
theorem Lay.nil (l : List Rw4) (js : List (List Nat)) : Lay l js 0 [] [] 0 := ⟨Mk.nil, rfl, rfl, by simp, fun _ => rfl, fun _ => rfl⟩
theorem Lay.wlen {l : List Rw4} {js : List (List Nat)} {k : Nat} {bs : List Nat} {wn : List Lc} {nn : Nat} (h : Lay l js k bs wn nn) : wn.length ≤ k := by
  have := congrArg List.length h.fr
  rw [List.length_map, List.length_take] at this
  omega
/-- junk, then a frame -/
theorem Lay.step {l : List Rw4} {js : List (List Nat)} {k : Nat} {bs : List Nat} {wn : List Lc} {nn : Nat} (h : Lay l js k bs wn nn) {x : Rw4} (hx : l[k]? = some x) (hk : k < 1000000) {j : List Nat} (hb : Byt j) (hj : ∀ x ∈ j, x ≠ 167) (hl : j.length ≤ 200) (hn : js = [] → j = []) :
    Lay l js (k + 1) (bs ++ j ++ en (ofR (rcQ x.k x.y x.v (k + 1)))) (wn ++ [((bs ++ j).length, (en (ofR (rcQ x.k x.y x.v (k + 1)))).length, ofR (rcQ x.k x.y x.v (k + 1)))]) (nn + j.length) := by
  obtain ⟨h1, h2, h3, h4⟩ := rcQ_may x.k x.y x.v (n := k + 1) (by omega) (by omega)
  have hM := h.mks.junks hb hj
  have he : (en (ofR (rcQ x.k x.y x.v (k + 1)))).length ≤ 1500 := by
    have e1 := en_len (ofR (rcQ x.k x.y x.v (k + 1)))
    have e2 := wr_len (bd (ofR (rcQ x.k x.y x.v (k + 1))))
    omega
  refine ⟨hM.en h2 h3 (ofR_kind h3), ?_, ?_, ?_, fun hz => ?_, fun e => ?_⟩
  · rw [List.map_append, h.fr, frs_take hx]; rfl
  · have := h.sum
    rw [sml_app, sml_cons, sml_nil, List.length_append, List.length_append]; simp only [List.length_append]; omega
  · have := h.len
    rw [List.length_append, List.length_append]; omega
  · have hj0 : j = [] := List.length_eq_zero_iff.1 (by omega)
    subst hj0
    rw [List.append_nil, h.cl (by omega), frs_take hx, ens_snoc]
  · rw [hn e, h.no e]; rfl
/-- junk behind the last one -/
theorem Lay.last {l : List Rw4} {js : List (List Nat)} {k : Nat} {bs : List Nat} {wn : List Lc} {nn : Nat} (h : Lay l js k bs wn nn) (hk : l.length ≤ k) {j : List Nat} (hb : Byt j) (hj : ∀ x ∈ j, x ≠ 167) (hl : j.length ≤ 200) (hn : js = [] → j = []) :
    Lay l js (k + 1) (bs ++ j) wn (nn + j.length) := by
  have ht : (frs l).take (k + 1) = (frs l).take k := by rw [List.take_of_length_le (by rw [frs_len]; omega), List.take_of_length_le (by rw [frs_len]; omega)]
  refine ⟨h.mks.junks hb hj, by rw [ht]; exact h.fr, ?_, ?_, fun hz => ?_, fun e => ?_⟩
  · have := h.sum
    rw [List.length_append]; omega
  · have := h.len
    rw [List.length_append]; omega
  · have hj0 : j = [] := List.length_eq_zero_iff.1 (by omega)
    subst hj0
    rw [List.append_nil, ht]; exact h.cl (by omega)
  · rw [hn e, h.no e]; rfl
theorem results_tmp4 {fn : Func} {t u v x : Tmp} (h : fn.results = #[.tmp t, .tmp u, .tmp v, .tmp x]) (tmps : Array Value) (P : Program) (w : World) :
    (results fn tmps).run P w = .ok (.tuple #[tmps.getD t undef, tmps.getD u undef, tmps.getD v undef, tmps.getD x undef]) w := by
  simp [results, h]
theorem wrapK {k : Nat} (h : k ≤ 100) : IntKind.u64.wrap (IntKind.i64.wrap ((k : Int) + 1)) = ((k + 1 : Nat) : Int) := by
  have key : ∀ q : Fin 101, IntKind.u64.wrap (IntKind.i64.wrap (((q.1 : Nat) : Int) + 1)) = ((q.1 + 1 : Nat) : Int) := by decide
  exact key ⟨k, by omega⟩
set_option maxRecDepth 100000 in
set_option maxHeartbeats 2000000 in
theorem laid_is (v u : Value) (l : List Rw4) (js : List (List Nat)) (w : World) (hL : IsRw w v l) (hU : IsP w u js) (hl : l.length ≤ 100) :
    Calls Try.prog 36 #[v, u] w fun e w' => ∃ bs wn nn vb va, Lay l js (l.length + 1) bs wn nn ∧ e = .returned (.tuple #[vb, va, .int .i64 (nn : Int), .bool true]) ∧ JB w' w.heap.size vb bs ∧ JI w' w.heap.size va (wn.map fun x => x.1) ∧ Below w.heap.size w w' := by
  have HL := hd hL
  obtain ⟨hjm, hjs⟩ := hU
  have HJS := hd hjs
  obtain ⟨la, lc, rfl⟩ := hL.shape
  obtain ⟨ja, jc, rfl⟩ : ∃ a c, u = .slice a js.length c := by
    rcases hjs with ⟨rfl, a, c, rfl⟩ | ⟨b, off, c, rfl, _⟩
    · exact ⟨a, c, rfl⟩
    · exact ⟨_, c, rfl⟩
  clear hL hjs
  replace hjm : js.length ≤ 9223372036854775807 := hjm
  go_enter Try.func36, Try.ntmps36
  go_wp2_with fail
  go_loopw [8, 9, 10, 11] (fun vb va n i wr => ∃ (k nn : Nat) (bs : List Nat) (wn : List Lc), k ≤ l.length + 1 ∧ i = .int .i64 (k : Int) ∧ n = .int .i64 (nn : Int) ∧ Lay l js k bs wn nn ∧ JB wr w.heap.size vb bs ∧ JI wr w.heap.size va (wn.map fun x => x.1) ∧ Below w.heap.size w wr) (fun _ _ _ i _ => l.length + 1 - (intOf i).toNat)
  case atStart => exact ⟨0, 0, [], [], by omega, rfl, rfl, Lay.nil l js, jk_nil _ _, jk_nil _ _, Below.refl _ _⟩
  case round =>
    obtain ⟨k, nn, bs, wn, hk, rfl, rfl, hLay, hB, hA, hbe⟩ := hrel
    have HLAY := hd hLay
    have hbl := hLay.len
    have hwl := hLay.wlen
    have hsum := hLay.sum
    have HB0 := hd hB
    have HA0 := hd hA
    have HE0 := hd hbe
    obtain ⟨ba, bc, rfl, hbc⟩ := JK.shape (k := .u8) (M := 256) (E := 5) hB
    obtain ⟨aa, ac, rfl, hac⟩ := JK.shape (k := .i64) (M := 9223372036854775808) (E := 3) hA
    rw [List.length_map] at hac ⊢ HA0
    have hsz := hbe.size
    have hnn : nn ≤ 200000 := by omega
    have hbl2 : bs.length ≤ 200000 := by omega
    clear hLay hB hA hbe hbl hsum
    by_cases hgo : k ≤ l.length
    · by_cases hj : k < js.length
      · obtain ⟨jb, joff, hje, hjb, hps⟩ : ∃ jb joff, ja = some ⟨jb, joff, none⟩ ∧ jb < w.heap.size ∧ IsPs w jb joff js := by
          rcases HJS.out with ⟨e, _⟩ | ⟨b', o', c', e, h1, h2⟩
          · rw [e] at hj; simp at hj
          · injection e with e1 e2 e3
            exact ⟨b', o', e1, h1, h2⟩
        subst hje
        obtain ⟨vj, hcj, hIj⟩ := hps k hj
        obtain ⟨m, hmm⟩ : ∃ m, m = js.getD k [] := ⟨_, rfl⟩
        rw [← hmm] at hIj
        obtain ⟨ma, mc, rfl⟩ := hIj.shape
        have hcw : wr.cell? ⟨jb, joff + k, none⟩ = some (.slice ma m.length mc) := by rw [HE0.out.cell (p := ⟨jb, joff + k, none⟩) hjb]; exact hcj
        have HJO := hd (junkOf_is (.slice ma m.length mc) m wr (hIj.below HE0.out))
        have HJB := hd (jnk_byt (l := m.take 200) (fun x hx => hIj.1 x (List.mem_of_mem_take hx)))
        have HJN := hd (jnk_no (m.take 200))
        have hjl : (jnk (m.take 200)).length ≤ 200 := by have := jnk_len (m.take 200); rw [List.length_take] at this; omega
        have HJ0 : Hid (js = [] → jnk (m.take 200) = []) := fun e => by rw [e] at hj; simp at hj
        generalize jnk (m.take 200) = j at HJO HJB HJN hjl HJ0
        clear hps hmm hIj hcj
        go_wp2_with fail
        refine Calls.mono HJO.out ?_
        rintro e w1 ⟨u1, rfl, j1, b1⟩
        obtain ⟨xa, xc, rfl, hxc⟩ := JK.shape (k := .u8) (M := 256) (E := 5) j1
        have HX1 := hd j1
        have HB1 := hd (JK.keepAll (k := .u8) (M := 256) (E := 5) HB0.out b1)
        have HA1 := hd (JK.keepAll (k := .i64) (M := 9223372036854775808) (E := 3) HA0.out b1)
        have HE1 := hd (HE0.out.trans (b1.mono hsz))
        have hs1 := b1.size
        clear j1 b1 HB0 HA0 HE0 HJO
        by_cases hlt : k < l.length
        · obtain ⟨x, hx⟩ : ∃ x, l[k]? = some x := ⟨_, List.getElem?_eq_getElem hlt⟩
          obtain ⟨hw1, hw2, hw3, hw4⟩ := HL.out.1 x (List.mem_of_getElem? hx)
          have HX := hd hx
          obtain ⟨b, off, he1, hbl4, hop⟩ : ∃ b off, la = some ⟨b, off, none⟩ ∧ b < w.heap.size ∧ ∀ j u, (wcl x)[j]? = some u → w.cell? ⟨b, off + k * 4 + j, none⟩ = some u := by
            rcases HL.out.2 with ⟨e, _⟩ | ⟨b, off, c, he, hlc, hcm, hb, hop⟩
            · rw [e] at hlt; simp at hlt
            · injection he with he1 he2 he3
              exact ⟨b, off, he1, hb, hop k x hx⟩
          subst he1
          have HC0 : Hid (∀ W : World, Below w.heap.size w W → W.cell? ⟨b, off + k * 4, none⟩ = some (.int .i64 x.k) ∧ W.cell? ⟨b, off + k * 4 + 1, none⟩ = some (.int .i64 x.y) ∧ W.cell? ⟨b, off + k * 4 + 2, none⟩ = some (.int .i64 x.v) ∧ W.cell? ⟨b, off + k * 4 + 3, none⟩ = some (.int .i64 x.n)) := by
            intro W hW
            exact ⟨by rw [hW.cell (p := ⟨b, off + k * 4, none⟩) hbl4]; exact hop 0 _ rfl, by rw [hW.cell (p := ⟨b, off + k * 4 + 1, none⟩) hbl4]; exact hop 1 _ rfl, by rw [hW.cell (p := ⟨b, off + k * 4 + 2, none⟩) hbl4]; exact hop 2 _ rfl, by rw [hW.cell (p := ⟨b, off + k * 4 + 3, none⟩) hbl4]; exact hop 3 _ rfl⟩
          have HREC : Hid (∀ W : World, Calls Try.prog 37 #[.agg #[.int .i64 x.k, .int .i64 x.y, .int .i64 x.v, .int .i64 x.n], .int .u64 ((k : Int) + 1)] W fun e w' => e = .returned (.agg #[.int .u64 ((k : Int) + 1), .int .i64 (rcQ x.k x.y x.v (k + 1)).kind, .string (rcQ x.k x.y x.v (k + 1)).key, .string (rcQ x.k x.y x.v (k + 1)).val]) ∧ Below W.heap.size W w') := fun W => by
            have := recordOf_eq x.k x.y x.v x.n (k + 1) W hw1 hw2 hw3
            rw [Int.natCast_add] at this
            exact this
          obtain ⟨hy1, hy2, hy3, hy4⟩ := rcQ_may x.k x.y x.v (n := k + 1) (by omega) (by omega)
          have HFR : Hid (∀ W : World, Calls Try.prog 43 #[.agg #[.int .u64 ((k : Int) + 1), .int .i64 (rcQ x.k x.y x.v (k + 1)).kind, .string (rcQ x.k x.y x.v (k + 1)).key, .string (rcQ x.k x.y x.v (k + 1)).val]] W fun e w' => ∃ u, e = .returned u ∧ JB w' W.heap.size u (en (ofR (rcQ x.k x.y x.v (k + 1)))) ∧ Below W.heap.size W w') := fun W => by
            have := framed_is (rcQ x.k x.y x.v (k + 1)) W hy2 hy3
            rw [hy1, Int.natCast_add] at this
            exact this
          have hE2 : (en (ofR (rcQ x.k x.y x.v (k + 1)))).length ≤ 1500 := by
            have e1 := en_len (ofR (rcQ x.k x.y x.v (k + 1)))
            have e2 := wr_len (bd (ofR (rcQ x.k x.y x.v (k + 1))))
            omega
          have hE1 := en_pos (ofR (rcQ x.k x.y x.v (k + 1)))
          have HSTEP : Hid (∀ j : List Nat, Byt j → (∀ x ∈ j, x ≠ 167) → j.length ≤ 200 → (js = [] → j = []) → ∃ wn', wn'.map (fun x => x.1) = wn.map (fun x => x.1) ++ [(bs ++ j).length] ∧ Lay l js (k + 1) (bs ++ j ++ en (ofR (rcQ x.k x.y x.v (k + 1)))) wn' (nn + j.length)) := fun j h1 h2 h3 h4 => ⟨_, by rw [List.map_append]; rfl, HLAY.out.step hx (by omega) h1 h2 h3 h4⟩
          generalize (rcQ x.k x.y x.v (k + 1)).kind = rk at HREC HFR
          generalize (rcQ x.k x.y x.v (k + 1)).key = rkey at HREC HFR
          generalize (rcQ x.k x.y x.v (k + 1)).val = rval at HREC HFR
          generalize en (ofR (rcQ x.k x.y x.v (k + 1))) = EN at HFR hE1 hE2 HSTEP
          clear hop hw1 hw2 hw3 hw4 hx hy1 hy2 hy3 hy4
          go_wp2_with (at_builtin; refine wpList_append_jk Try.underlying22 info_u8 _ rfl _ _ rfl w.heap.size (.slice ba bs.length bc) (.slice xa j.length xc) bs j rfl rfl HB1.out (JK.isK (k := .u8) (M := 256) (E := 5) HX1.out) (bs.length + j.length) rfl (bs ++ j) rfl (by omega) (by omega) (by omega) ?_; intro a2 c2 w2 hj2 hg2 hk2 hc2; have HB2 := hd hj2; have HA2 := hd (JK.grownO (k := .i64) (M := 9223372036854775808) (E := 3) HA1.out hg2 (JK.apart (k := .i64) (M := 9223372036854775808) (E := 3) HA1.out HB1.out (by decide))); have HE2 := hd (HE1.out.grown hg2 (by omega) (fun q hq => JK.blk_ge (k := .u8) (M := 256) (E := 5) HB1.out q hq)); have hs2 := HE2.out.size; clear hj2 hg2 hk2 HB1 HA1 HE1; obtain ⟨d0, d1, d2, d3⟩ := HC0.out w2 HE2.out)
          refine Calls.mono (HREC.out _) ?_
          rintro e w3 ⟨rfl, b3⟩
          have HB3 := hd (JK.keepAll (k := .u8) (M := 256) (E := 5) HB2.out b3)
          have HA3 := hd (JK.keepAll (k := .i64) (M := 9223372036854775808) (E := 3) HA2.out b3)
          have HE3 := hd (HE2.out.trans (b3.mono (by omega)))
          have hs3 := b3.size
          clear b3 HB2 HA2 HE2 HREC d0 d1 d2 d3
          go_wp2_with fail
          refine Calls.mono (HFR.out _) ?_
          rintro e w4 ⟨u4', rfl, j4, b4⟩
          obtain ⟨ea, ec, rfl, hec⟩ := JK.shape (k := .u8) (M := 256) (E := 5) j4
          have HX4 := hd j4
          have HB4 := hd (JK.keepAll (k := .u8) (M := 256) (E := 5) HB3.out b4)
          have HA4 := hd (JK.keepAll (k := .i64) (M := 9223372036854775808) (E := 3) HA3.out b4)
          have HE4 := hd (HE3.out.trans (b4.mono (by omega)))
          have hs4 := b4.size
          clear j4 b4 HB3 HA3 HE3 HFR
          have hne : ((EN.length : Int) == 0) = false := by rw [beq_eq_false_iff_ne]; omega
          have hw4 := HE4.out.size
          have HLT : Hid (#[.int .i64 ((bs.length : Int) + (j.length : Int))] = ([(bs.length + j.length)].map fun x => Value.int .i64 ((x : Nat) : Int)).toArray) := by show _ = _; simp
          have HLM : Hid (∀ x ∈ [(bs.length + j.length)], x < 9223372036854775808) := by
            intro x hx
            rw [List.mem_singleton] at hx
            omega
          have BA4 : Hid (Below w4.heap.size w4 (w4.alloc (.cells #[.int .i64 ((bs.length : Int) + (j.length : Int))] 3))) := (Below.refl _ _).alloc (Nat.le_refl _) _
          have HA4b := hd (JK.keepAll (k := .i64) (M := 9223372036854775808) (E := 3) HA4.out BA4.out)
          have HB4b := hd (JK.keepAll (k := .u8) (M := 256) (E := 5) HB4.out BA4.out)
          have HX4b := hd (JK.keepAll (k := .u8) (M := 256) (E := 5) HX4.out BA4.out)
          have HE4b := hd (HE4.out.alloc hw4 (.cells #[.int .i64 ((bs.length : Int) + (j.length : Int))] 3))
          have hw4b := HE4b.out.size
          have tok1 : True := trivial
          have hmap : (wn.map fun x => x.1).length = wn.length := List.length_map _
          obtain ⟨at0, hat0⟩ : ∃ at0, at0 = wn.map fun x => x.1 := ⟨_, rfl⟩
          rw [← hat0] at HA4b hmap HSTEP
          clear hat0
          go_wp2_with (first
            | (at_builtin; have _t := tok1; refine wpList_append_jk Try.underlying77 info_int _ rfl _ _ rfl w.heap.size (.slice aa wn.length ac) (.slice (some ⟨w4.heap.size, 0, none⟩) 1 1) at0 [(bs.length + j.length)] rfl rfl HA4b.out (lit_isK .i64 9223372036854775808 w4 #[.int .i64 ((bs.length : Int) + (j.length : Int))] 3 [(bs.length + j.length)] 1 rfl HLT.out HLM.out (by simp [maxLen])) (wn.length + 1) (by rw [hmap]; rfl) (at0 ++ [(bs.length + j.length)]) rfl (by omega) (by omega) hw4b ?_; intro a5 c5 w5 hj5 hg5 hk5 hc5; clear tok1; have tok2 : True := trivial; have HA5 := hd hj5; have HB5 := hd (JK.grownO (k := .u8) (M := 256) (E := 5) HB4b.out hg5 (JK.apart (k := .u8) (M := 256) (E := 5) HB4b.out HA4b.out (by decide))); have HX5 := hd (JK.grownO (k := .u8) (M := 256) (E := 5) HX4b.out hg5 (JK.apart (k := .u8) (M := 256) (E := 5) HX4b.out HA4b.out (by decide))); have HE5 := hd (HE4b.out.grown hg5 hw4b (fun q hq => JK.blk_ge (k := .i64) (M := 9223372036854775808) (E := 3) HA4b.out q hq)); have hs5 := HE5.out.size; clear hj5 hg5 hk5)
            | (at_builtin; have _t := tok2; refine wpList_append_jk Try.underlying22 info_u8 _ rfl _ _ rfl w.heap.size (.slice a2 (bs.length + j.length) c2) (.slice ea EN.length ec) ((bs ++ j)) EN rfl rfl HB5.out (JK.isK (k := .u8) (M := 256) (E := 5) HX5.out) ((bs.length + j.length) + EN.length) (by rw [List.length_append]) ((bs ++ j) ++ EN) rfl (by omega) (by omega) (by omega) ?_; intro a6 c6 w6 hj6 hg6 hk6 hc6; clear tok2; have HB6 := hd hj6; have HA6 := hd (JK.grownO (k := .i64) (M := 9223372036854775808) (E := 3) HA5.out hg6 (JK.apart (k := .i64) (M := 9223372036854775808) (E := 3) HA5.out HB5.out (by decide))); have HE6 := hd (HE5.out.grown hg6 (by omega) (fun q hq => JK.blk_ge (k := .u8) (M := 256) (E := 5) HB5.out q hq)); clear hj6 hg6 hk6))
          go_roundw
          case rel =>
            obtain ⟨wn', hw1, hw2⟩ := HSTEP.out j HJB.out HJN.out hjl HJ0.out
            exact ⟨k + 1, nn + j.length, _, wn', by omega, by go_num, by go_num, hw2, HB6.out, by rw [hw1, List.length_append]; exact HA6.out, HE6.out⟩
          case measure => simp [intOf]; omega
        · go_wp2_with (at_builtin; refine wpList_append_jk Try.underlying22 info_u8 _ rfl _ _ rfl w.heap.size (.slice ba bs.length bc) (.slice xa j.length xc) bs j rfl rfl HB1.out (JK.isK (k := .u8) (M := 256) (E := 5) HX1.out) (bs.length + j.length) rfl (bs ++ j) rfl (by omega) (by omega) (by omega) ?_; intro a2 c2 w2 hj2 hg2 hk2 hc2; have HB2 := hd hj2; have HA2 := hd (JK.grownO (k := .i64) (M := 9223372036854775808) (E := 3) HA1.out hg2 (JK.apart (k := .i64) (M := 9223372036854775808) (E := 3) HA1.out HB1.out (by decide))); have HE2 := hd (HE1.out.grown hg2 (by omega) (fun q hq => JK.blk_ge (k := .u8) (M := 256) (E := 5) HB1.out q hq)); have hs2 := HE2.out.size; clear hj2 hg2 hk2 HB1 HA1 HE1)
          go_roundw
          case rel => exact ⟨k + 1, nn + j.length, bs ++ j, wn, by omega, by go_num, by go_num, HLAY.out.last (by omega) HJB.out HJN.out hjl HJ0.out, HB2.out, HA2.out, HE2.out⟩
          case measure => simp [intOf]; omega
      · by_cases hlt : k < l.length
        · obtain ⟨x, hx⟩ : ∃ x, l[k]? = some x := ⟨_, List.getElem?_eq_getElem hlt⟩
          obtain ⟨hw1, hw2, hw3, hw4⟩ := HL.out.1 x (List.mem_of_getElem? hx)
          have HX := hd hx
          obtain ⟨b, off, he1, hbl4, hop⟩ : ∃ b off, la = some ⟨b, off, none⟩ ∧ b < w.heap.size ∧ ∀ j u, (wcl x)[j]? = some u → w.cell? ⟨b, off + k * 4 + j, none⟩ = some u := by
            rcases HL.out.2 with ⟨e, _⟩ | ⟨b, off, c, he, hlc, hcm, hb, hop⟩
            · rw [e] at hlt; simp at hlt
            · injection he with he1 he2 he3
              exact ⟨b, off, he1, hb, hop k x hx⟩
          subst he1
          have HC0 : Hid (∀ W : World, Below w.heap.size w W → W.cell? ⟨b, off + k * 4, none⟩ = some (.int .i64 x.k) ∧ W.cell? ⟨b, off + k * 4 + 1, none⟩ = some (.int .i64 x.y) ∧ W.cell? ⟨b, off + k * 4 + 2, none⟩ = some (.int .i64 x.v) ∧ W.cell? ⟨b, off + k * 4 + 3, none⟩ = some (.int .i64 x.n)) := by
            intro W hW
            exact ⟨by rw [hW.cell (p := ⟨b, off + k * 4, none⟩) hbl4]; exact hop 0 _ rfl, by rw [hW.cell (p := ⟨b, off + k * 4 + 1, none⟩) hbl4]; exact hop 1 _ rfl, by rw [hW.cell (p := ⟨b, off + k * 4 + 2, none⟩) hbl4]; exact hop 2 _ rfl, by rw [hW.cell (p := ⟨b, off + k * 4 + 3, none⟩) hbl4]; exact hop 3 _ rfl⟩
          have HREC : Hid (∀ W : World, Calls Try.prog 37 #[.agg #[.int .i64 x.k, .int .i64 x.y, .int .i64 x.v, .int .i64 x.n], .int .u64 ((k : Int) + 1)] W fun e w' => e = .returned (.agg #[.int .u64 ((k : Int) + 1), .int .i64 (rcQ x.k x.y x.v (k + 1)).kind, .string (rcQ x.k x.y x.v (k + 1)).key, .string (rcQ x.k x.y x.v (k + 1)).val]) ∧ Below W.heap.size W w') := fun W => by
            have := recordOf_eq x.k x.y x.v x.n (k + 1) W hw1 hw2 hw3
            rw [Int.natCast_add] at this
            exact this
          obtain ⟨hy1, hy2, hy3, hy4⟩ := rcQ_may x.k x.y x.v (n := k + 1) (by omega) (by omega)
          have HFR : Hid (∀ W : World, Calls Try.prog 43 #[.agg #[.int .u64 ((k : Int) + 1), .int .i64 (rcQ x.k x.y x.v (k + 1)).kind, .string (rcQ x.k x.y x.v (k + 1)).key, .string (rcQ x.k x.y x.v (k + 1)).val]] W fun e w' => ∃ u, e = .returned u ∧ JB w' W.heap.size u (en (ofR (rcQ x.k x.y x.v (k + 1)))) ∧ Below W.heap.size W w') := fun W => by
            have := framed_is (rcQ x.k x.y x.v (k + 1)) W hy2 hy3
            rw [hy1, Int.natCast_add] at this
            exact this
          have hE2 : (en (ofR (rcQ x.k x.y x.v (k + 1)))).length ≤ 1500 := by
            have e1 := en_len (ofR (rcQ x.k x.y x.v (k + 1)))
            have e2 := wr_len (bd (ofR (rcQ x.k x.y x.v (k + 1))))
            omega
          have hE1 := en_pos (ofR (rcQ x.k x.y x.v (k + 1)))
          have HSTEP : Hid (∀ j : List Nat, Byt j → (∀ x ∈ j, x ≠ 167) → j.length ≤ 200 → (js = [] → j = []) → ∃ wn', wn'.map (fun x => x.1) = wn.map (fun x => x.1) ++ [(bs ++ j).length] ∧ Lay l js (k + 1) (bs ++ j ++ en (ofR (rcQ x.k x.y x.v (k + 1)))) wn' (nn + j.length)) := fun j h1 h2 h3 h4 => ⟨_, by rw [List.map_append]; rfl, HLAY.out.step hx (by omega) h1 h2 h3 h4⟩
          generalize (rcQ x.k x.y x.v (k + 1)).kind = rk at HREC HFR
          generalize (rcQ x.k x.y x.v (k + 1)).key = rkey at HREC HFR
          generalize (rcQ x.k x.y x.v (k + 1)).val = rval at HREC HFR
          generalize en (ofR (rcQ x.k x.y x.v (k + 1))) = EN at HFR hE1 hE2 HSTEP
          clear hop hw1 hw2 hw3 hw4 hx hy1 hy2 hy3 hy4
          obtain ⟨d0, d1, d2, d3⟩ := HC0.out wr HE0.out
          go_wp2_with fail
          refine Calls.mono (HREC.out _) ?_
          rintro e w3 ⟨rfl, b3⟩
          have HB3 := hd (JK.keepAll (k := .u8) (M := 256) (E := 5) HB0.out b3)
          have HA3 := hd (JK.keepAll (k := .i64) (M := 9223372036854775808) (E := 3) HA0.out b3)
          have HE3 := hd (HE0.out.trans (b3.mono (by omega)))
          have hs3 := b3.size
          clear b3 HB0 HA0 HE0 HREC d0 d1 d2 d3
          go_wp2_with fail
          refine Calls.mono (HFR.out _) ?_
          rintro e w4 ⟨u4', rfl, j4, b4⟩
          obtain ⟨ea, ec, rfl, hec⟩ := JK.shape (k := .u8) (M := 256) (E := 5) j4
          have HX4 := hd j4
          have HB4 := hd (JK.keepAll (k := .u8) (M := 256) (E := 5) HB3.out b4)
          have HA4 := hd (JK.keepAll (k := .i64) (M := 9223372036854775808) (E := 3) HA3.out b4)
          have HE4 := hd (HE3.out.trans (b4.mono (by omega)))
          have hs4 := b4.size
          clear j4 b4 HB3 HA3 HE3 HFR
          have hne : ((EN.length : Int) == 0) = false := by rw [beq_eq_false_iff_ne]; omega
          have hw4 := HE4.out.size
          have HLT : Hid (#[.int .i64 (bs.length : Int)] = ([bs.length].map fun x => Value.int .i64 ((x : Nat) : Int)).toArray) := by show _ = _; simp
          have HLM : Hid (∀ x ∈ [bs.length], x < 9223372036854775808) := by
            intro x hx
            rw [List.mem_singleton] at hx
            omega
          have BA4 : Hid (Below w4.heap.size w4 (w4.alloc (.cells #[.int .i64 (bs.length : Int)] 3))) := (Below.refl _ _).alloc (Nat.le_refl _) _
          have HA4b := hd (JK.keepAll (k := .i64) (M := 9223372036854775808) (E := 3) HA4.out BA4.out)
          have HB4b := hd (JK.keepAll (k := .u8) (M := 256) (E := 5) HB4.out BA4.out)
          have HX4b := hd (JK.keepAll (k := .u8) (M := 256) (E := 5) HX4.out BA4.out)
          have HE4b := hd (HE4.out.alloc hw4 (.cells #[.int .i64 (bs.length : Int)] 3))
          have hw4b := HE4b.out.size
          have tok1 : True := trivial
          have hmap : (wn.map fun x => x.1).length = wn.length := List.length_map _
          obtain ⟨at0, hat0⟩ : ∃ at0, at0 = wn.map fun x => x.1 := ⟨_, rfl⟩
          rw [← hat0] at HA4b hmap HSTEP
          clear hat0
          go_wp2_with (first
            | (at_builtin; have _t := tok1; refine wpList_append_jk Try.underlying77 info_int _ rfl _ _ rfl w.heap.size (.slice aa wn.length ac) (.slice (some ⟨w4.heap.size, 0, none⟩) 1 1) at0 [bs.length] rfl rfl HA4b.out (lit_isK .i64 9223372036854775808 w4 #[.int .i64 (bs.length : Int)] 3 [bs.length] 1 rfl HLT.out HLM.out (by simp [maxLen])) (wn.length + 1) (by rw [hmap]; rfl) (at0 ++ [bs.length]) rfl (by omega) (by omega) hw4b ?_; intro a5 c5 w5 hj5 hg5 hk5 hc5; clear tok1; have tok2 : True := trivial; have HA5 := hd hj5; have HB5 := hd (JK.grownO (k := .u8) (M := 256) (E := 5) HB4b.out hg5 (JK.apart (k := .u8) (M := 256) (E := 5) HB4b.out HA4b.out (by decide))); have HX5 := hd (JK.grownO (k := .u8) (M := 256) (E := 5) HX4b.out hg5 (JK.apart (k := .u8) (M := 256) (E := 5) HX4b.out HA4b.out (by decide))); have HE5 := hd (HE4b.out.grown hg5 hw4b (fun q hq => JK.blk_ge (k := .i64) (M := 9223372036854775808) (E := 3) HA4b.out q hq)); have hs5 := HE5.out.size; clear hj5 hg5 hk5)
            | (at_builtin; have _t := tok2; refine wpList_append_jk Try.underlying22 info_u8 _ rfl _ _ rfl w.heap.size (.slice ba bs.length bc) (.slice ea EN.length ec) (bs) EN rfl rfl HB5.out (JK.isK (k := .u8) (M := 256) (E := 5) HX5.out) (bs.length + EN.length) rfl (bs ++ EN) rfl (by omega) (by omega) (by omega) ?_; intro a6 c6 w6 hj6 hg6 hk6 hc6; clear tok2; have HB6 := hd hj6; have HA6 := hd (JK.grownO (k := .i64) (M := 9223372036854775808) (E := 3) HA5.out hg6 (JK.apart (k := .i64) (M := 9223372036854775808) (E := 3) HA5.out HB5.out (by decide))); have HE6 := hd (HE5.out.grown hg6 (by omega) (fun q hq => JK.blk_ge (k := .u8) (M := 256) (E := 5) HB5.out q hq)); clear hj6 hg6 hk6))
          go_roundw
          case rel =>
            obtain ⟨wn', hw1, hw2⟩ := HSTEP.out [] (fun x hx => by cases hx) (fun x hx => by cases hx) (by simp) (fun _ => rfl)
            exact ⟨k + 1, nn, _, wn', by omega, by go_num, rfl, by simpa using hw2, HB6.out, by rw [hw1, List.append_nil]; exact HA6.out, HE6.out⟩
          case measure => simp [intOf]; omega
        · go_wp2_with fail
          go_roundw
          case rel => exact ⟨k + 1, nn, bs, wn, by omega, by go_num, rfl, by have := HLAY.out.last (j := []) (by omega) (fun x hx => by cases hx) (fun x hx => by cases hx) (by simp) (fun _ => rfl); simpa using this, HB0.out, HA0.out, HE0.out⟩
          case measure => simp [intOf]; omega
    · obtain rfl : k = l.length + 1 := by omega
      go_wp2_with fail
      refine bodyPost_ret (results_tmp4 rfl _ _ _) rfl ?_
      exact ⟨bs, wn, nn, _, _, HLAY.out, rfl, HB0.out, HA0.out, HE0.out⟩
end Vt
end Go.Proofs.Ytlddogigbodilaa
