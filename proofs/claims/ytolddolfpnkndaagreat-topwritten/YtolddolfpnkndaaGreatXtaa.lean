/-
  A DISK, PLAINLY: files with a name, bytes and how many of them last; what each call answers and leaves, as functions on such a state. No program.
  THE PLAIN MATHEMATICS OF VARINTS AND DIGITS, proved of natural numbers and lists of them, without any condition beyond those that each row bears: there and back, one way only to write a number, what is cut off, how long a varint is, digits in order.
-/
import Derived.Lib.BitFns
namespace Go.Proofs.YtolddolfpnkndaaGreat
namespace Dk
structure Fi where
  nm : ByteArray
  dat : List Nat
  las : Nat
structure Ds where
  cap : Nat
  used : Nat
  acts : Nat
  down : Bool
  fail : Nat
  brk : Nat
  done : Bool
  fs : List Fi
def get (fs : List Fi) (s : ByteArray) : Option Fi := fs.find? fun f => decide (f.nm = s)
def upd (fs : List Fi) (s : ByteArray) (g : Fi → Fi) : List Fi := fs.map fun f => if f.nm = s then g f else f
def del (fs : List Fi) (s : ByteArray) : List Fi := fs.filter fun f => decide (f.nm ≠ s)
def tot (fs : List Fi) : Nat := (fs.map fun f => f.dat.length).sum
def isNm (s : ByteArray) : Bool := decide (1 ≤ s.size) && decide (s.size ≤ 60)
def tick (S : Ds) : Ds := { S with acts := S.acts + 1, fail := S.fail - 1, brk := S.brk - 1 }
/-- an act that is not refused -/
def run (S : Ds) (g : Ds → Ds) : Nat × Ds :=
  if S.brk = 1 then (75, { (if S.done then g (tick S) else tick S) with down := true })
  else if S.fail = 1 then (74, tick S) else (0, g (tick S))
def bar (S : Ds) (fits : Bool) : Nat := if S.down then 75 else if fits then 0 else 70
def look (S : Ds) (s : ByteArray) (fits : Bool) : Nat := if bar S (isNm s && fits) ≠ 0 then bar S (isNm s && fits) else if (get S.fs s).isSome then 0 else 71
def actOf (S : Ds) (r : Nat) (g : Ds → Ds) : Nat × Ds := if r ≠ 0 then (r, S) else run S g
def gCreate (s : ByteArray) (S : Ds) : Ds := { S with fs := S.fs ++ [⟨s, [], 0⟩] }
def rCreate (S : Ds) (s : ByteArray) : Nat := if bar S (isNm s) ≠ 0 then bar S (isNm s) else if (get S.fs s).isSome then 72 else 0
def create (S : Ds) (s : ByteArray) : Nat × Ds := actOf S (rCreate S s) (gCreate s)
def gAppend (s : ByteArray) (l : List Nat) (S : Ds) : Ds := { S with fs := upd S.fs s fun f => { f with dat := f.dat ++ l }, used := S.used + l.length }
def rAppend (S : Ds) (s : ByteArray) (l : List Nat) : Nat := if look S s true ≠ 0 then look S s true else if S.cap - S.used < l.length then 73 else 0
def append (S : Ds) (s : ByteArray) (l : List Nat) : Nat × Ds := actOf S (rAppend S s l) (gAppend s l)
def gSync (s : ByteArray) (S : Ds) : Ds := { S with fs := upd S.fs s fun f => { f with las := f.dat.length } }
def sync (S : Ds) (s : ByteArray) : Nat × Ds := actOf S (look S s true) (gSync s)
def gRemove (s : ByteArray) (S : Ds) : Ds := { S with fs := del S.fs s, used := S.used - ((get S.fs s).map fun f => f.dat.length).getD 0 }
def remove (S : Ds) (s : ByteArray) : Nat × Ds := actOf S (look S s true) (gRemove s)
def gTrunc (s : ByteArray) (n : Nat) (S : Ds) : Ds := { S with fs := upd S.fs s fun f => { f with dat := f.dat.take n, las := min f.las n }, used := S.used - (((get S.fs s).map fun f => f.dat.length).getD 0 - n) }
def rTrunc (S : Ds) (s : ByteArray) (n : Int) : Nat := if look S s (decide (0 ≤ n)) ≠ 0 then look S s (decide (0 ≤ n)) else if ((((get S.fs s).map fun f => f.dat.length).getD 0 : Nat) : Int) < n then 70 else 0
def trunc (S : Ds) (s : ByteArray) (n : Int) : Nat × Ds := actOf S (rTrunc S s n) (gTrunc s n.toNat)
def gRename (s t : ByteArray) (S : Ds) : Ds :=
  match get S.fs s with
  | none => S
  | some f => { S with fs := del (del S.fs s) t ++ [{ f with nm := t }], used := S.used - ((get (del S.fs s) t).map fun f => f.dat.length).getD 0 }
def rename (S : Ds) (s t : ByteArray) : Nat × Ds := actOf S (look S s (isNm t)) (gRename s t)
def read (S : Ds) (s : ByteArray) (at_ n : Int) : Nat × Ds := actOf S (look S s (decide (0 ≤ at_) && decide (0 ≤ n))) id
def bytes (S : Ds) (s : ByteArray) (at_ n : Int) : List Nat := (((get S.fs s).map fun f => f.dat).getD []).drop at_.toNat |>.take n.toNat
/-- of a file what a crash leaves -/
def left (keep : Int) (f : Fi) : Nat := f.las + min keep.toNat (f.dat.length - f.las)
def crashed (keep : Int) (f : Fi) : Fi := { f with dat := f.dat.take (left keep f), las := (f.dat.take (left keep f)).length }
def crash (keep : Int) (S : Ds) : Ds := { S with fs := S.fs.map (crashed keep), used := tot (S.fs.map (crashed keep)), down := false, fail := 0, brk := 0, done := false }
/-- what a disk's state keeps to -/
structure Good (S : Ds) : Prop where
  cap : S.cap ≤ 4194304
  used : S.used = tot S.fs
  room : S.used ≤ S.cap
  names : S.fs.Pairwise fun a b => a.nm ≠ b.nm
  isnm : ∀ f ∈ S.fs, isNm f.nm = true
  las : ∀ f ∈ S.fs, f.las ≤ f.dat.length
  fail : S.fail < 9223372036854775808
  brk : S.brk < 9223372036854775808
  cnt : S.fs.length ≤ S.acts + 200
/-! ### lists of files -/
theorem get_mem {fs : List Fi} {s : ByteArray} {f : Fi} (h : get fs s = some f) : f ∈ fs ∧ f.nm = s := by
  unfold get at h
  exact ⟨List.mem_of_find?_eq_some h, by simpa using List.find?_some h⟩
theorem get_of_mem {fs : List Fi} (hn : fs.Pairwise fun a b => a.nm ≠ b.nm) {f : Fi} (h : f ∈ fs) : get fs f.nm = some f := by
  induction fs with
  | nil => cases h
  | cons a r ih =>
    rw [List.pairwise_cons] at hn
    unfold get
    rw [List.find?_cons]
    rcases List.mem_cons.1 h with rfl | h
    · simp
    · have : a.nm ≠ f.nm := hn.1 f h
      simp only [this, decide_false]
      exact ih hn.2 h
theorem get_none {fs : List Fi} {s : ByteArray} : get fs s = none ↔ ∀ f ∈ fs, f.nm ≠ s := by
  unfold get
  rw [List.find?_eq_none]
  simp
theorem get_del {fs : List Fi} {s t : ByteArray} : get (del fs s) t = if t = s then none else get fs t := by
  unfold get del
  rw [List.find?_filter]
  by_cases e : t = s
  · rw [if_pos e, List.find?_eq_none]
    intro f hf
    simp [e]
  · rw [if_neg e]
    congr 1
    funext f
    by_cases e2 : f.nm = t
    · simp [e2, e]
    · simp [e2]
theorem upd_names {fs : List Fi} {s : ByteArray} {g : Fi → Fi} (hg : ∀ f, (g f).nm = f.nm) (h : fs.Pairwise fun a b => a.nm ≠ b.nm) : (upd fs s g).Pairwise fun a b => a.nm ≠ b.nm := by
  unfold upd
  rw [List.pairwise_map]
  refine h.imp ?_
  intro a b hab
  have ha : (if a.nm = s then g a else a).nm = a.nm := by split; exact hg a; rfl
  have hb : (if b.nm = s then g b else b).nm = b.nm := by split; exact hg b; rfl
  rw [ha, hb]; exact hab
theorem mem_upd {fs : List Fi} {s : ByteArray} {g : Fi → Fi} {f : Fi} (h : f ∈ upd fs s g) : ∃ f0 ∈ fs, f = if f0.nm = s then g f0 else f0 := by
  unfold upd at h
  rw [List.mem_map] at h
  obtain ⟨f0, h0, rfl⟩ := h
  exact ⟨f0, h0, rfl⟩
theorem tot_upd {fs : List Fi} {s : ByteArray} {g : Fi → Fi} (hn : fs.Pairwise fun a b => a.nm ≠ b.nm) {f : Fi} (h : get fs s = some f) : tot (upd fs s g) + f.dat.length = tot fs + (g f).dat.length := by
  induction fs with
  | nil => cases h
  | cons a r ih =>
    rw [List.pairwise_cons] at hn
    unfold get at h
    rw [List.find?_cons] at h
    unfold tot upd
    rw [List.map_cons, List.map_cons, List.map_cons, List.sum_cons, List.sum_cons]
    by_cases e : a.nm = s
    · rw [if_pos e]
      simp [e] at h
      subst h
      have : (r.map fun f => if f.nm = s then g f else f) = r := by
        conv => rhs; rw [← List.map_id r]
        refine List.map_congr_left fun x hx => ?_
        rw [if_neg (fun q => hn.1 x hx (e.trans q.symm))]; rfl
      rw [this]; omega
    · rw [if_neg e]
      simp only [e, decide_false] at h
      have := ih hn.2 h
      unfold tot upd at this
      omega
theorem tot_del {fs : List Fi} {s : ByteArray} (hn : fs.Pairwise fun a b => a.nm ≠ b.nm) : tot (del fs s) + ((get fs s).map fun f => f.dat.length).getD 0 = tot fs := by
  induction fs with
  | nil => rfl
  | cons a r ih =>
    rw [List.pairwise_cons] at hn
    have ih := ih hn.2
    unfold tot del get at ih ⊢
    rw [List.filter_cons, List.find?_cons, List.map_cons, List.sum_cons]
    by_cases e : a.nm = s
    · simp only [e, ne_eq, not_true_eq_false, decide_false, Bool.false_eq_true, if_false, decide_true, Option.map_some, Option.getD_some]
      have : r.filter (fun f => decide (f.nm ≠ s)) = r := by
        rw [List.filter_eq_self]
        intro x hx
        have := hn.1 x hx
        rw [e] at this
        simpa using fun q : x.nm = s => this q.symm
      simp only [ne_eq] at this
      rw [this]; omega
    · simp only [e, ne_eq, not_false_eq_true, decide_true, if_true, decide_false, List.map_cons, List.sum_cons]
      simp only [ne_eq] at ih
      omega
theorem get_len_le {fs : List Fi} {s : ByteArray} {f : Fi} (h : get fs s = some f) : f.dat.length ≤ tot fs := by
  have hm := (get_mem h).1
  clear h
  induction fs with
  | nil => cases hm
  | cons a r ih =>
    unfold tot at ih ⊢
    rw [List.map_cons, List.sum_cons]
    rcases List.mem_cons.1 hm with rfl | hm
    · omega
    · have := ih hm; omega
theorem tot_app (a b : List Fi) : tot (a ++ b) = tot a + tot b := by simp [tot]
/-! ### Good is kept -/
theorem Good.tick {S : Ds} (h : Good S) : Good (tick S) := ⟨h.cap, h.used, h.room, h.names, h.isnm, h.las, Nat.lt_of_le_of_lt (Nat.sub_le _ _) h.fail, Nat.lt_of_le_of_lt (Nat.sub_le _ _) h.brk, by have := h.cnt; show S.fs.length ≤ S.acts + 1 + 200; omega⟩
theorem Good.down {S : Ds} (h : Good S) : Good { S with down := true } := ⟨h.cap, h.used, h.room, h.names, h.isnm, h.las, h.fail, h.brk, h.cnt⟩
theorem Good.create {S : Ds} (h : Good S) {s : ByteArray} (hs : isNm s = true) (hn : get S.fs s = none) (hc : S.fs.length + 1 ≤ S.acts + 200) : Good (gCreate s S) := by
  refine ⟨h.cap, ?_, h.room, ?_, ?_, ?_, h.fail, h.brk, ?_⟩
  · show S.used = tot (S.fs ++ [_]); rw [tot_app, ← h.used]; rfl
  · show (S.fs ++ [_]).Pairwise _
    rw [List.pairwise_append]
    refine ⟨h.names, List.pairwise_singleton _ _, fun a ha b hb => ?_⟩
    rw [List.mem_singleton.1 hb]
    exact get_none.1 hn a ha
  · intro f hf
    rcases List.mem_append.1 hf with hf | hf
    · exact h.isnm f hf
    · rw [List.mem_singleton.1 hf]; exact hs
  · intro f hf
    rcases List.mem_append.1 hf with hf | hf
    · exact h.las f hf
    · rw [List.mem_singleton.1 hf]; exact Nat.le_refl _
  · show (S.fs ++ [_]).length ≤ S.acts + 200; rw [List.length_append]; exact hc
theorem Good.upd {S : Ds} (h : Good S) {s : ByteArray} {g : Fi → Fi} {u : Nat} {f : Fi} (hg : get S.fs s = some f) (hnm : ∀ f, (g f).nm = f.nm) (hl : ∀ f, f.las ≤ f.dat.length → (g f).las ≤ (g f).dat.length) (hu : u + f.dat.length = S.used + (g f).dat.length) (hr : u ≤ S.cap) : Good { S with fs := upd S.fs s g, used := u } := by
  refine ⟨h.cap, ?_, hr, upd_names hnm h.names, ?_, ?_, h.fail, h.brk, ?_⟩
  · show u = tot (Dk.upd S.fs s g)
    have := tot_upd (g := g) h.names hg
    have := h.used
    omega
  · intro x hx
    obtain ⟨x0, h0, rfl⟩ := mem_upd hx
    split
    · rw [hnm]; exact h.isnm x0 h0
    · exact h.isnm x0 h0
  · intro x hx
    obtain ⟨x0, h0, rfl⟩ := mem_upd hx
    split
    · exact hl _ (h.las x0 h0)
    · exact h.las x0 h0
  · show (Dk.upd S.fs s g).length ≤ _
    unfold Dk.upd
    rw [List.length_map]; exact h.cnt
theorem del_sub (fs : List Fi) (s : ByteArray) : List.Sublist (del fs s) fs := List.filter_sublist
theorem Good.remove {S : Ds} (h : Good S) {s : ByteArray} : Good (gRemove s S) := by
  have ht := tot_del (s := s) h.names
  have hu := h.used
  refine ⟨h.cap, ?_, ?_, h.names.sublist (del_sub _ _), fun f hf => h.isnm f ((del_sub _ _).mem hf), fun f hf => h.las f ((del_sub _ _).mem hf), h.fail, h.brk, Nat.le_trans (del_sub _ _).length_le h.cnt⟩
  · show S.used - _ = tot (del S.fs s); omega
  · show S.used - _ ≤ S.cap; have := h.room; omega
theorem Good.rename {S : Ds} (h : Good S) {s t : ByteArray} (ht : isNm t = true) : Good (gRename s t S) := by
  unfold gRename
  cases hf : get S.fs s with
  | none => exact h
  | some f =>
    have h1 := tot_del (s := s) h.names
    have hn1 : (del S.fs s).Pairwise fun a b => a.nm ≠ b.nm := h.names.sublist (del_sub _ _)
    have h2 := tot_del (s := t) hn1
    have hu := h.used
    have hm := get_mem hf
    rw [hf] at h1
    simp only [Option.map_some, Option.getD_some] at h1
    have hsub : List.Sublist (del (del S.fs s) t) S.fs := (del_sub _ _).trans (del_sub _ _)
    have hlen : (del (del S.fs s) t).length + 1 ≤ S.fs.length := by
      have e1 := (del_sub (del S.fs s) t).length_le
      have e2 : (del S.fs s).length + 1 ≤ S.fs.length := by
        unfold del
        have := List.length_filter_lt_length_iff_exists (l := S.fs) (p := fun f => decide (f.nm ≠ s))
        have := this.2 ⟨f, hm.1, by simp [hm.2]⟩
        omega
      omega
    refine ⟨h.cap, ?_, ?_, ?_, ?_, ?_, h.fail, h.brk, ?_⟩
    · show S.used - _ = tot (del (del S.fs s) t ++ [{ f with nm := t }])
      rw [tot_app]
      have : tot [({ f with nm := t } : Fi)] = f.dat.length := by simp [tot]
      omega
    · show S.used - _ ≤ S.cap
      have := h.room
      omega
    · show (del (del S.fs s) t ++ [{ f with nm := t }]).Pairwise _
      rw [List.pairwise_append]
      refine ⟨h.names.sublist hsub, List.pairwise_singleton _ _, fun a ha b hb => ?_⟩
      rw [List.mem_singleton.1 hb]
      have : get (del (del S.fs s) t) t = none := by rw [get_del, if_pos rfl]
      exact get_none.1 this a ha
    · intro x hx
      rcases List.mem_append.1 hx with hx | hx
      · exact h.isnm x (hsub.mem hx)
      · rw [List.mem_singleton.1 hx]; exact ht
    · intro x hx
      rcases List.mem_append.1 hx with hx | hx
      · exact h.las x (hsub.mem hx)
      · rw [List.mem_singleton.1 hx]; exact h.las f hm.1
    · show (del (del S.fs s) t ++ [{ f with nm := t }]).length ≤ S.acts + 200
      rw [List.length_append]
      have := h.cnt
      show (del (del S.fs s) t).length + 1 ≤ _
      omega
theorem tot_crashed (keep : Int) (fs : List Fi) : tot (fs.map (crashed keep)) ≤ tot fs := by
  induction fs with
  | nil => exact Nat.le_refl _
  | cons a r ih =>
    unfold tot at ih ⊢
    rw [List.map_cons, List.map_cons, List.sum_cons, List.map_cons, List.sum_cons]
    have : (crashed keep a).dat.length ≤ a.dat.length := by simp [crashed]; omega
    omega
theorem Good.crash {S : Ds} (h : Good S) (keep : Int) : Good (crash keep S) := by
  refine ⟨h.cap, rfl, Nat.le_trans (tot_crashed keep S.fs) (by rw [← h.used]; exact h.room), ?_, ?_, ?_, Nat.zero_lt_succ _, Nat.zero_lt_succ _, ?_⟩
  · show (S.fs.map (crashed keep)).Pairwise _
    rw [List.pairwise_map]
    exact h.names.imp fun hab => hab
  · intro f hf
    obtain ⟨f0, h0, rfl⟩ := List.mem_map.1 hf
    exact h.isnm f0 h0
  · intro f hf
    obtain ⟨f0, h0, rfl⟩ := List.mem_map.1 hf
    exact Nat.le_refl _
  · show (S.fs.map (crashed keep)).length ≤ _; rw [List.length_map]; exact h.cnt
end Dk
end Go.Proofs.YtolddolfpnkndaaGreat
namespace Go.Proofs.YtolddolfpnkndaaGreat
namespace Vt
def Byt (l : List Nat) : Prop := ∀ x ∈ l, x < 256
theorem byt_nil : Byt [] := by intro x hx; simp at hx
theorem byt_app {a b : List Nat} (ha : Byt a) (hb : Byt b) : Byt (a ++ b) := by
  intro x hx
  rcases List.mem_append.1 hx with hx | hx
  · exact ha x hx
  · exact hb x hx
theorem byt_take {l : List Nat} (h : Byt l) (k : Nat) : Byt (l.take k) := fun x hx => h x (List.mem_of_mem_take hx)
theorem byt_drop {l : List Nat} (h : Byt l) (k : Nat) : Byt (l.drop k) := fun x hx => h x (List.mem_of_mem_drop hx)
theorem getD_lt {l : List Nat} (h : Byt l) (k : Nat) : l.getD k 0 < 256 := by
  rw [List.getD_eq_getElem?_getD]
  cases e : l[k]? with
  | none => simp
  | some x => exact h x (List.mem_of_getElem? e)
theorem take_succ_getD {l : List Nat} {k : Nat} (h : k < l.length) : l.take (k + 1) = l.take k ++ [l.getD k 0] := by
  rw [List.take_succ_eq_append_getElem h, List.getD_eq_getElem?_getD, List.getElem?_eq_getElem h]; rfl

/-- the varint of a number -/
def vrt (n : Nat) : List Nat := if n < 128 then [n] else (n % 128 + 128) :: vrt (n / 128)
  termination_by n
  decreasing_by omega
theorem vrt_small {n : Nat} (h : n < 128) : vrt n = [n] := by unfold vrt; rw [if_pos h]
theorem vrt_big {n : Nat} (h : 128 ≤ n) : vrt n = (n % 128 + 128) :: vrt (n / 128) := by rw [vrt, if_neg (by omega)]
theorem vrt_len (n : Nat) : 1 ≤ (vrt n).length := by
  by_cases h : n < 128
  · rw [vrt_small h]; simp
  · rw [vrt_big (by omega)]; simp
theorem vrt_byt (n : Nat) : Byt (vrt n) := by
  induction n using Nat.strongRecOn with
  | _ n ih =>
    by_cases h : n < 128
    · rw [vrt_small h]; intro x hx; simp at hx; omega
    · rw [vrt_big (by omega)]
      intro x hx
      rcases List.mem_cons.1 hx with hx | hx
      · omega
      · exact ih (n / 128) (by omega) x hx
def num : List Nat → Nat
  | [] => 0
  | c :: r => c % 128 + 128 * num r
theorem num_vrt (n : Nat) : num (vrt n) = n := by
  induction n using Nat.strongRecOn with
  | _ n ih =>
    by_cases h : n < 128
    · rw [vrt_small h]; simp [num]; omega
    · rw [vrt_big (by omega), num, ih (n / 128) (by omega)]; omega
theorem pw (k : Nat) : 128 ^ (k + 1) = 128 * 128 ^ k := by rw [Nat.pow_succ, Nat.mul_comm]
theorem pw_pos (k : Nat) : 0 < 128 ^ k := Nat.pow_pos (by omega)
theorem num_append (a b : List Nat) : num (a ++ b) = num a + 128 ^ a.length * num b := by
  induction a with
  | nil => simp [num]
  | cons c r ih => simp only [List.cons_append, num, List.length_cons, ih, pw, Nat.mul_add, Nat.mul_assoc]; omega
theorem num_lt (a : List Nat) : num a < 128 ^ a.length := by
  induction a with
  | nil => simp [num]
  | cons c r ih => simp only [num, List.length_cons, pw]; omega
/-- where the first byte below 128 stands (the length, if there is none) -/
def idx : List Nat → Nat
  | [] => 0
  | c :: r => if c < 128 then 0 else idx r + 1
theorem idx_le (l : List Nat) : idx l ≤ l.length := by
  induction l with
  | nil => simp [idx]
  | cons c r ih => simp only [idx, List.length_cons]; split <;> omega
theorem idx_lt {l : List Nat} {j : Nat} (h : j < idx l) : 128 ≤ l.getD j 0 := by
  induction l generalizing j with
  | nil => simp [idx] at h
  | cons c r ih =>
    simp only [idx] at h
    split at h
    · omega
    · cases j with
      | zero => simp; omega
      | succ j => rw [List.getD_cons_succ]; exact ih (by omega)
theorem idx_at {l : List Nat} (h : idx l < l.length) : l.getD (idx l) 0 < 128 := by
  induction l with
  | nil => simp at h
  | cons c r ih =>
    simp only [idx, List.length_cons] at h ⊢
    split
    · simpa
    · rename_i h1; rw [if_neg h1] at h; rw [List.getD_cons_succ]; exact ih (by omega)
theorem idx_eq {l : List Nat} {k : Nat} (h : ∀ j, j < k → 128 ≤ l.getD j 0) (hk : k < l.length) (hc : l.getD k 0 < 128) : idx l = k := by
  rcases Nat.lt_trichotomy (idx l) k with h1 | h1 | h1
  · have := h _ h1
    have := idx_at (l := l) (by omega)
    omega
  · exact h1
  · have := idx_lt h1; omega
/-- what Decode answers: number, length, error -/
def dec (l : List Nat) : Nat × Nat × Nat :=
  if 10 ≤ idx l then (0, 0, 22)
  else if idx l = l.length then (0, 0, 21)
  else if idx l = 9 ∧ 1 < l.getD 9 0 then (0, 0, 22)
  else if 0 < idx l ∧ l.getD (idx l) 0 = 0 then (0, 0, 23)
  else (num (l.take (idx l + 1)), idx l + 1, 0)
theorem num_pos {l : List Nat} (h : idx l < l.length) (hc : l.getD (idx l) 0 ≠ 0) : 0 < num (l.take (idx l + 1)) := by
  induction l with
  | nil => simp at h
  | cons c r ih =>
    simp only [idx, List.length_cons] at h hc ⊢
    by_cases h1 : c < 128
    · rw [if_pos h1] at hc ⊢
      simp [num] at hc ⊢; omega
    · rw [if_neg h1] at h hc ⊢
      rw [List.getD_cons_succ] at hc
      have := ih (by omega) hc
      rw [List.take_succ_cons, num]; omega
theorem vrt_num {l : List Nat} (hb : Byt l) (h : idx l < l.length) (hc : idx l = 0 ∨ l.getD (idx l) 0 ≠ 0) : vrt (num (l.take (idx l + 1))) = l.take (idx l + 1) := by
  induction l with
  | nil => simp at h
  | cons c r ih =>
    simp only [idx, List.length_cons] at h hc ⊢
    by_cases h1 : c < 128
    · rw [if_pos h1]
      simp only [Nat.zero_add, List.take_succ_cons, List.take_zero, num, Nat.mul_zero, Nat.add_zero]
      rw [Nat.mod_eq_of_lt h1, vrt_small h1]
    · rw [if_neg h1] at h hc ⊢
      have hc' : r.getD (idx r) 0 ≠ 0 := by
        rcases hc with hc | hc
        · omega
        · rwa [List.getD_cons_succ] at hc
      have hp := num_pos (l := r) (by omega) hc'
      have hcb := hb c (List.mem_cons_self)
      have := ih (fun x hx => hb x (List.mem_cons_of_mem _ hx)) (by omega) (.inr hc')
      rw [List.take_succ_cons, num, vrt_big (by omega)]
      rw [show (c % 128 + 128 * num (List.take (idx r + 1) r)) / 128 = num (List.take (idx r + 1) r) by omega, this]
      rw [show (c % 128 + 128 * num (List.take (idx r + 1) r)) % 128 + 128 = c by omega]
theorem vrt_at (n j : Nat) (h : j + 1 < (vrt n).length) : 128 ≤ (vrt n).getD j 0 := by
  induction n using Nat.strongRecOn generalizing j with
  | _ n ih =>
    by_cases h1 : n < 128
    · rw [vrt_small h1] at h; simp at h
    · rw [vrt_big (by omega)] at h ⊢
      cases j with
      | zero => simp
      | succ j => rw [List.getD_cons_succ]; exact ih (n / 128) (by omega) j (by simpa using h)
theorem vrt_last (n : Nat) : (vrt n).getD ((vrt n).length - 1) 0 = n / 128 ^ ((vrt n).length - 1) := by
  induction n using Nat.strongRecOn with
  | _ n ih =>
    by_cases h1 : n < 128
    · rw [vrt_small h1]; simp
    · have hl := vrt_len (n / 128)
      rw [vrt_big (by omega)]
      rw [List.length_cons, Nat.add_sub_cancel]
      obtain ⟨k, hk⟩ : ∃ k, (vrt (n / 128)).length = k + 1 := ⟨_, (Nat.sub_add_cancel hl).symm⟩
      have := ih (n / 128) (by omega)
      rw [hk, Nat.add_sub_cancel] at this
      rw [hk, List.getD_cons_succ, this, pw, Nat.div_div_eq_div_mul]
theorem vrt_lo (n : Nat) (h : 1 < (vrt n).length) : 128 ^ ((vrt n).length - 1) ≤ n := by
  induction n using Nat.strongRecOn with
  | _ n ih =>
    by_cases h1 : n < 128
    · rw [vrt_small h1] at h; simp at h
    · have hl := vrt_len (n / 128)
      rw [vrt_big (by omega), List.length_cons, Nat.add_sub_cancel]
      obtain ⟨k, hk⟩ : ∃ k, (vrt (n / 128)).length = k + 1 := ⟨_, (Nat.sub_add_cancel hl).symm⟩
      have := ih (n / 128) (by omega)
      rw [hk, Nat.add_sub_cancel] at this
      rw [hk, pw]
      rcases Nat.eq_zero_or_pos k with h0 | h0
      · subst h0; simp; omega
      · have := this (by omega)
        calc 128 * 128 ^ k ≤ 128 * (n / 128) := Nat.mul_le_mul_left _ this
          _ ≤ n := by omega
theorem vrt_hi (n : Nat) : n < 128 ^ (vrt n).length := by
  have := num_lt (vrt n)
  rwa [num_vrt] at this
theorem vrt_le {n k : Nat} (h : n < 128 ^ k) (hk : 1 ≤ k) : (vrt n).length ≤ k := by
  rcases Nat.lt_or_ge k (vrt n).length with h1 | h1
  · have := vrt_lo n (by omega)
    have : 128 ^ k ≤ 128 ^ ((vrt n).length - 1) := Nat.pow_le_pow_right (by omega) (by omega)
    omega
  · exact h1
theorem vrt_ten {n : Nat} (h : n < 18446744073709551616) : (vrt n).length ≤ 10 := vrt_le (Nat.lt_of_lt_of_le h (by decide)) (by omega)
theorem getD_app_left {a b : List Nat} {j : Nat} (h : j < a.length) : (a ++ b).getD j 0 = a.getD j 0 := by
  rw [List.getD_eq_getElem?_getD, List.getD_eq_getElem?_getD, List.getElem?_append_left h]
theorem idx_vrt (n : Nat) (r : List Nat) : idx (vrt n ++ r) + 1 = (vrt n).length := by
  have hl := vrt_len n
  have : idx (vrt n ++ r) = (vrt n).length - 1 := by
    refine idx_eq (fun j hj => ?_) (by rw [List.length_append]; omega) ?_
    · rw [getD_app_left (by omega)]; exact vrt_at n j (by omega)
    · rw [getD_app_left (by omega), vrt_last]
      have := vrt_hi n
      rw [Nat.div_lt_iff_lt_mul (pw_pos _), ← pw, Nat.sub_add_cancel hl]
      exact this
  omega
/-- what is encoded is decoded, whatever stands behind -/
theorem dec_vrt {n : Nat} (h : n < 18446744073709551616) (r : List Nat) : dec (vrt n ++ r) = (n, (vrt n).length, 0) := by
  have hi := idx_vrt n r
  have hl := vrt_ten h
  have hla := vrt_last n
  have hlo := vrt_lo n
  have e : (vrt n ++ r).getD (idx (vrt n ++ r)) 0 = n / 128 ^ ((vrt n).length - 1) := by
    rw [getD_app_left (by omega), show idx (vrt n ++ r) = (vrt n).length - 1 by omega, hla]
  unfold dec
  rw [if_neg (by omega), if_neg (by rw [List.length_append]; omega), if_neg, if_neg]
  · rw [hi, List.take_left', num_vrt]; rfl
  · rintro ⟨h1, h2⟩
    rw [e] at h2
    have := hlo (by omega)
    have := Nat.div_pos this (pw_pos _)
    omega
  · rintro ⟨h1, h2⟩
    rw [h1] at e
    rw [e, show (vrt n).length - 1 = 9 by omega] at h2
    have : n / 128 ^ 9 < 2 := by rw [Nat.div_lt_iff_lt_mul (by decide)]; exact h
    omega
theorem dec_ok {l : List Nat} {n k : Nat} (hb : Byt l) (h : dec l = (n, k, 0)) : vrt n = l.take k ∧ 1 ≤ k ∧ k ≤ 10 ∧ k ≤ l.length ∧ n < 18446744073709551616 ∧ k = (vrt n).length := by
  have hle := idx_le l
  unfold dec at h
  split at h
  · simp at h
  · split at h
    · simp at h
    · split at h
      · simp at h
      · split at h
        · simp at h
        · rename_i h1 h2 h3 h4
          simp only [Prod.mk.injEq, and_true] at h
          obtain ⟨rfl, rfl⟩ := h
          have hv := vrt_num hb (by omega) (by omega)
          refine ⟨hv, by omega, by omega, by omega, ?_, by rw [hv, List.length_take]; omega⟩
          by_cases h9 : idx l = 9
          · rw [h9, take_succ_getD (by omega), num_append]
            have hx := num_lt (l.take 9)
            rw [List.length_take, show min 9 l.length = 9 by omega] at hx ⊢
            have : l.getD 9 0 ≤ 1 := by omega
            simp only [num, Nat.mul_zero, Nat.add_zero]
            rw [Nat.mod_eq_of_lt (by omega)]
            have e : (128 : Nat) ^ 9 = 9223372036854775808 := by decide
            rw [e] at hx ⊢
            omega
          · have hx := num_lt (l.take (idx l + 1))
            rw [List.length_take] at hx
            have : 128 ^ min (idx l + 1) l.length ≤ 128 ^ 9 := Nat.pow_le_pow_right (by omega) (by omega)
            have e : (128 : Nat) ^ 9 = 9223372036854775808 := by decide
            omega
theorem bl_aux (f x : Nat) (hx : x < 2 ^ f) : x < 2 ^ Lib.bitLenAux f x ∧ (x ≠ 0 → 2 ^ (Lib.bitLenAux f x - 1) ≤ x) ∧ (x ≠ 0 → 0 < Lib.bitLenAux f x) := by
  induction f generalizing x with
  | zero => simp [Lib.bitLenAux] at *; omega
  | succ f ih =>
    unfold Lib.bitLenAux
    split
    · subst_vars; simp
    · rename_i h0
      obtain ⟨h1, h2, h3⟩ := ih (x / 2) (by rw [Nat.pow_succ] at hx; omega)
      refine ⟨by rw [Nat.add_comm, Nat.pow_succ]; omega, fun _ => ?_, fun _ => by omega⟩
      rw [Nat.add_sub_cancel_left]
      by_cases h : x / 2 = 0
      · rw [h]
        cases f with
        | zero => simp [Lib.bitLenAux]; omega
        | succ f => simp [Lib.bitLenAux]; omega
      · have h4 := h2 h
        have h5 := h3 h
        obtain ⟨k, hk⟩ : ∃ k, Lib.bitLenAux f (x / 2) = k + 1 := ⟨_, (Nat.sub_add_cancel h5).symm⟩
        rw [hk] at h4 ⊢
        rw [Nat.add_sub_cancel] at h4
        rw [Nat.pow_succ]; omega
theorem bl_spec {x : Nat} (hx : x < 18446744073709551616) : x < 2 ^ Lib.bitLen x ∧ (x ≠ 0 → 2 ^ (Lib.bitLen x - 1) ≤ x) ∧ (x ≠ 0 → 0 < Lib.bitLen x) := bl_aux 64 x hx
theorem pow7 (k : Nat) : 128 ^ k = 2 ^ (7 * k) := by rw [show (128 : Nat) = 2 ^ 7 by decide, ← Nat.pow_mul]
theorem bl_le {x : Nat} (hx : x < 18446744073709551616) : Lib.bitLen x ≤ 64 := by
  obtain ⟨_, h2, _⟩ := bl_spec hx
  by_cases h : x = 0
  · subst h; decide
  · have := h2 h
    rcases Nat.lt_or_ge 64 (Lib.bitLen x) with h1 | h1
    · have : 2 ^ 64 ≤ 2 ^ (Lib.bitLen x - 1) := Nat.pow_le_pow_right (by omega) (by omega)
      have : (2 : Nat) ^ 64 = 18446744073709551616 := by decide
      omega
    · exact h1
theorem or_one (n : Nat) : n ||| 1 = n / 2 * 2 + 1 := by
  have h := Nat.div_add_mod (n ||| 1) 2
  have e1 : (n ||| 1) / 2 = n / 2 := by
    have := Nat.shiftRight_or_distrib (a := n) (b := 1) (i := 1)
    simp only [Nat.shiftRight_succ, Nat.shiftRight_zero] at this
    simpa using this
  have e2 : (n ||| 1) % 2 = 1 := by
    rw [Nat.or_mod_two_eq_one]; omega
  omega
/-- Size's count is the varint's length -/
theorem size_vrt {n : Nat} (h : n < 18446744073709551616) : (Lib.bitLen (n ||| 1) + 6) / 7 = (vrt n).length := by
  have hx : n ||| 1 < 18446744073709551616 := Nat.or_lt_two_pow (n := 64) h (by decide)
  have hne : n ||| 1 ≠ 0 := by rw [or_one]; omega
  obtain ⟨h1, h2, h3⟩ := bl_spec hx
  have h2 := h2 hne
  have h3 := h3 hne
  have hl := vrt_len n
  have hhi := vrt_hi n
  have hhi2 : n ||| 1 < 2 ^ (7 * (vrt n).length) := by
    rw [← pow7, or_one]
    have : 128 ^ (vrt n).length = 128 * 128 ^ ((vrt n).length - 1) := by rw [← pw, Nat.sub_add_cancel hl]
    omega
  have hlo : 2 ^ (7 * ((vrt n).length - 1)) ≤ n ||| 1 := by
    rw [← pow7, or_one]
    rcases Nat.lt_or_ge 1 (vrt n).length with h4 | h4
    · have := vrt_lo n h4; omega
    · rw [show (vrt n).length - 1 = 0 by omega]; simp
  have a1 : Lib.bitLen (n ||| 1) - 1 < 7 * (vrt n).length := by
    refine (Nat.pow_lt_pow_iff_right (a := 2) (by omega)).1 ?_
    omega
  have a2 : 7 * ((vrt n).length - 1) < Lib.bitLen (n ||| 1) := by
    refine (Nat.pow_lt_pow_iff_right (a := 2) (by omega)).1 ?_
    omega
  omega

/-- so many digits of a number, the highest first -/
def dg : Nat → Nat → List Nat
  | 0, _ => []
  | c + 1, n => n / 128 ^ c % 128 :: dg c n
theorem dg_len (c n : Nat) : (dg c n).length = c := by
  induction c with
  | zero => rfl
  | succ c ih => simp [dg, ih]
theorem dg_lt (c n : Nat) : ∀ x ∈ dg c n, x < 128 := by
  induction c with
  | zero => simp [dg]
  | succ c ih =>
    intro x hx
    rcases List.mem_cons.1 hx with rfl | hx
    · omega
    · exact ih x hx
theorem dg_byt (c n : Nat) : Byt (dg c n) := fun x hx => by have := dg_lt c n x hx; omega
def nm (l : List Nat) : Nat := l.foldl (fun a c => a * 128 + c) 0
theorem nm_snoc (l : List Nat) (c : Nat) : nm (l ++ [c]) = nm l * 128 + c := by simp [nm, List.foldl_append]
theorem nm_foldl (a : Nat) (l : List Nat) : l.foldl (fun a c => a * 128 + c) a = a * 128 ^ l.length + nm l := by
  induction l generalizing a with
  | nil => simp [nm]
  | cons x r ih =>
    simp only [List.foldl_cons, List.length_cons, nm]
    rw [ih, ih (0 * 128 + x), pw, Nat.zero_mul, Nat.zero_add, Nat.add_mul, Nat.mul_assoc, Nat.add_assoc]
theorem nm_cons (x : Nat) (r : List Nat) : nm (x :: r) = x * 128 ^ r.length + nm r := by
  rw [nm, List.foldl_cons, nm_foldl, Nat.zero_mul, Nat.zero_add]
theorem nm_dg (c n : Nat) : nm (dg c n) = n % 128 ^ c := by
  induction c with
  | zero => simp [dg, nm, Nat.mod_one]
  | succ c ih =>
    rw [dg, nm_cons, dg_len, ih, Nat.pow_succ, Nat.mod_mul, Nat.mul_comm, Nat.add_comm]
theorem nm_lt {l : List Nat} (h : ∀ x ∈ l, x < 128) : nm l < 128 ^ l.length := by
  induction l with
  | nil => simp [nm]
  | cons x r ih =>
    have h1 := h x List.mem_cons_self
    have h2 := ih fun y hy => h y (List.mem_cons_of_mem _ hy)
    rw [nm_cons, List.length_cons, pw]
    have : x * 128 ^ r.length ≤ 127 * 128 ^ r.length := Nat.mul_le_mul_right _ (by omega)
    omega
theorem dg_nm {l : List Nat} (h : ∀ x ∈ l, x < 128) : dg l.length (nm l) = l := by
  have key : ∀ (l : List Nat), (∀ x ∈ l, x < 128) → ∀ a, dg l.length (a * 128 ^ l.length + nm l) = l := by
    intro l
    induction l with
    | nil => intro _ _; rfl
    | cons x r ih =>
      intro h a
      have h1 := h x List.mem_cons_self
      have h2 := nm_lt fun y hy => h y (List.mem_cons_of_mem _ hy)
      have hr := fun y hy => h y (List.mem_cons_of_mem _ hy)
      rw [List.length_cons, dg, nm_cons, pw]
      have e : a * (128 * 128 ^ r.length) + (x * 128 ^ r.length + nm r) = (a * 128 + x) * 128 ^ r.length + nm r := by
        rw [Nat.add_mul, Nat.mul_assoc, Nat.add_assoc]
      rw [e, ih hr (a * 128 + x)]
      rw [Nat.add_comm ((a * 128 + x) * 128 ^ r.length), Nat.add_mul_div_right _ _ (pw_pos _), Nat.div_eq_of_lt h2]
      congr 1
      omega
  have := key l h 0
  rwa [Nat.zero_mul, Nat.zero_add] at this
theorem bl_digits {n c : Nat} (h : n < 18446744073709551616) : 7 * c < Lib.bitLen n ↔ 128 ^ c ≤ n := by
  obtain ⟨h1, h2, h3⟩ := bl_spec h
  rw [pow7]
  constructor
  · intro h4
    have hn : n ≠ 0 := by intro e; subst e; simp [Lib.bitLen, Lib.bitLenAux] at h4
    have := h2 hn
    have : 2 ^ (7 * c) ≤ 2 ^ (Lib.bitLen n - 1) := Nat.pow_le_pow_right (by omega) (by omega)
    omega
  · intro h4
    refine (Nat.pow_lt_pow_iff_right (a := 2) (by omega)).1 ?_
    omega
end Vt
end Go.Proofs.YtolddolfpnkndaaGreat
