/-
  A DISK, PLAINLY: files with a name, bytes and how many of them last; what each call answers and leaves, as functions on such a state. No program.
-/
namespace Go.Proofs.YtnakaomgceoobaaGreat
namespace Dk
structure Fi where
  nm : ByteArray
  dat : List Nat
  las : Nat
structure Ds where
  cap : Nat
  used : Nat
  acts : Nat
  down : Bool
  fail : Nat
  brk : Nat
  done : Bool
  fs : List Fi
def get (fs : List Fi) (s : ByteArray) : Option Fi := fs.find? fun f => decide (f.nm = s)
def upd (fs : List Fi) (s : ByteArray) (g : Fi → Fi) : List Fi := fs.map fun f => if f.nm = s then g f else f
def del (fs : List Fi) (s : ByteArray) : List Fi := fs.filter fun f => decide (f.nm ≠ s)
def tot (fs : List Fi) : Nat := (fs.map fun f => f.dat.length).sum
def isNm (s : ByteArray) : Bool := decide (1 ≤ s.size) && decide (s.size ≤ 60)
def tick (S : Ds) : Ds := { S with acts := S.acts + 1, fail := S.fail - 1, brk := S.brk - 1 }
/-- an act that is not refused -/
def run (S : Ds) (g : Ds → Ds) : Nat × Ds :=
  if S.brk = 1 then (75, { (if S.done then g (tick S) else tick S) with down := true })
  else if S.fail = 1 then (74, tick S) else (0, g (tick S))
def bar (S : Ds) (fits : Bool) : Nat := if S.down then 75 else if fits then 0 else 70
def look (S : Ds) (s : ByteArray) (fits : Bool) : Nat := if bar S (isNm s && fits) ≠ 0 then bar S (isNm s && fits) else if (get S.fs s).isSome then 0 else 71
def actOf (S : Ds) (r : Nat) (g : Ds → Ds) : Nat × Ds := if r ≠ 0 then (r, S) else run S g
def gCreate (s : ByteArray) (S : Ds) : Ds := { S with fs := S.fs ++ [⟨s, [], 0⟩] }
def rCreate (S : Ds) (s : ByteArray) : Nat := if bar S (isNm s) ≠ 0 then bar S (isNm s) else if (get S.fs s).isSome then 72 else 0
def create (S : Ds) (s : ByteArray) : Nat × Ds := actOf S (rCreate S s) (gCreate s)
def gAppend (s : ByteArray) (l : List Nat) (S : Ds) : Ds := { S with fs := upd S.fs s fun f => { f with dat := f.dat ++ l }, used := S.used + l.length }
def rAppend (S : Ds) (s : ByteArray) (l : List Nat) : Nat := if look S s true ≠ 0 then look S s true else if S.cap - S.used < l.length then 73 else 0
def append (S : Ds) (s : ByteArray) (l : List Nat) : Nat × Ds := actOf S (rAppend S s l) (gAppend s l)
def gSync (s : ByteArray) (S : Ds) : Ds := { S with fs := upd S.fs s fun f => { f with las := f.dat.length } }
def sync (S : Ds) (s : ByteArray) : Nat × Ds := actOf S (look S s true) (gSync s)
def gRemove (s : ByteArray) (S : Ds) : Ds := { S with fs := del S.fs s, used := S.used - ((get S.fs s).map fun f => f.dat.length).getD 0 }
def remove (S : Ds) (s : ByteArray) : Nat × Ds := actOf S (look S s true) (gRemove s)
def gTrunc (s : ByteArray) (n : Nat) (S : Ds) : Ds := { S with fs := upd S.fs s fun f => { f with dat := f.dat.take n, las := min f.las n }, used := S.used - (((get S.fs s).map fun f => f.dat.length).getD 0 - n) }
def rTrunc (S : Ds) (s : ByteArray) (n : Int) : Nat := if look S s (decide (0 ≤ n)) ≠ 0 then look S s (decide (0 ≤ n)) else if ((((get S.fs s).map fun f => f.dat.length).getD 0 : Nat) : Int) < n then 70 else 0
def trunc (S : Ds) (s : ByteArray) (n : Int) : Nat × Ds := actOf S (rTrunc S s n) (gTrunc s n.toNat)
def gRename (s t : ByteArray) (S : Ds) : Ds :=
  match get S.fs s with
  | none => S
  | some f => { S with fs := del (del S.fs s) t ++ [{ f with nm := t }], used := S.used - ((get (del S.fs s) t).map fun f => f.dat.length).getD 0 }
def rename (S : Ds) (s t : ByteArray) : Nat × Ds := actOf S (look S s (isNm t)) (gRename s t)
def read (S : Ds) (s : ByteArray) (at_ n : Int) : Nat × Ds := actOf S (look S s (decide (0 ≤ at_) && decide (0 ≤ n))) id
def bytes (S : Ds) (s : ByteArray) (at_ n : Int) : List Nat := (((get S.fs s).map fun f => f.dat).getD []).drop at_.toNat |>.take n.toNat
/-- of a file what a crash leaves -/
def left (keep : Int) (f : Fi) : Nat := f.las + min keep.toNat (f.dat.length - f.las)
def crashed (keep : Int) (f : Fi) : Fi := { f with dat := f.dat.take (left keep f), las := (f.dat.take (left keep f)).length }
def crash (keep : Int) (S : Ds) : Ds := { S with fs := S.fs.map (crashed keep), used := tot (S.fs.map (crashed keep)), down := false, fail := 0, brk := 0, done := false }
/-- what a disk's state keeps to -/
structure Good (S : Ds) : Prop where
  cap : S.cap ≤ 4194304
  used : S.used = tot S.fs
  room : S.used ≤ S.cap
  names : S.fs.Pairwise fun a b => a.nm ≠ b.nm
  isnm : ∀ f ∈ S.fs, isNm f.nm = true
  las : ∀ f ∈ S.fs, f.las ≤ f.dat.length
  fail : S.fail < 9223372036854775808
  brk : S.brk < 9223372036854775808
  cnt : S.fs.length ≤ S.acts + 200
/-! ### lists of files -/
theorem get_mem {fs : List Fi} {s : ByteArray} {f : Fi} (h : get fs s = some f) : f ∈ fs ∧ f.nm = s := by
  unfold get at h
  exact ⟨List.mem_of_find?_eq_some h, by simpa using List.find?_some h⟩
theorem get_of_mem {fs : List Fi} (hn : fs.Pairwise fun a b => a.nm ≠ b.nm) {f : Fi} (h : f ∈ fs) : get fs f.nm = some f := by
  induction fs with
  | nil => cases h
  | cons a r ih =>
    rw [List.pairwise_cons] at hn
    unfold get
    rw [List.find?_cons]
    rcases List.mem_cons.1 h with rfl | h
    · simp
    · have : a.nm ≠ f.nm := hn.1 f h
      simp only [this, decide_false]
      exact ih hn.2 h
theorem get_none {fs : List Fi} {s : ByteArray} : get fs s = none ↔ ∀ f ∈ fs, f.nm ≠ s := by
  unfold get
  rw [List.find?_eq_none]
  simp
theorem get_snoc {fs : List Fi} {g : Fi} (h : get fs g.nm = none) (s : ByteArray) : get (fs ++ [g]) s = if g.nm = s then some g else get fs s := by
  unfold get
  rw [List.find?_append]
  by_cases e : g.nm = s
  · rw [if_pos e]
    subst e
    have h' : fs.find? (fun f => decide (f.nm = g.nm)) = none := h
    rw [h']; simp
  · rw [if_neg e]; simp [e]
theorem get_upd {fs : List Fi} {s t : ByteArray} {g : Fi → Fi} (hg : ∀ f, (g f).nm = f.nm) : get (upd fs s g) t = (get fs t).map fun f => if t = s then g f else f := by
  induction fs with
  | nil => rfl
  | cons a r ih =>
    unfold get upd at ih ⊢
    rw [List.map_cons, List.find?_cons, List.find?_cons]
    by_cases e : a.nm = s
    · rw [if_pos e]
      by_cases e2 : a.nm = t
      · simp [hg, e2, ← e]
      · simp only [hg, e2, decide_false]; exact ih
    · rw [if_neg e]
      by_cases e2 : a.nm = t
      · have : t ≠ s := fun q => e (e2.trans q)
        simp [e2, this]
      · simp only [e2, decide_false]; exact ih
theorem get_del {fs : List Fi} {s t : ByteArray} : get (del fs s) t = if t = s then none else get fs t := by
  unfold get del
  rw [List.find?_filter]
  by_cases e : t = s
  · rw [if_pos e, List.find?_eq_none]
    intro f hf
    simp [e]
  · rw [if_neg e]
    congr 1
    funext f
    by_cases e2 : f.nm = t
    · simp [e2, e]
    · simp [e2]
theorem upd_names {fs : List Fi} {s : ByteArray} {g : Fi → Fi} (hg : ∀ f, (g f).nm = f.nm) (h : fs.Pairwise fun a b => a.nm ≠ b.nm) : (upd fs s g).Pairwise fun a b => a.nm ≠ b.nm := by
  unfold upd
  rw [List.pairwise_map]
  refine h.imp ?_
  intro a b hab
  have ha : (if a.nm = s then g a else a).nm = a.nm := by split; exact hg a; rfl
  have hb : (if b.nm = s then g b else b).nm = b.nm := by split; exact hg b; rfl
  rw [ha, hb]; exact hab
theorem mem_upd {fs : List Fi} {s : ByteArray} {g : Fi → Fi} {f : Fi} (h : f ∈ upd fs s g) : ∃ f0 ∈ fs, f = if f0.nm = s then g f0 else f0 := by
  unfold upd at h
  rw [List.mem_map] at h
  obtain ⟨f0, h0, rfl⟩ := h
  exact ⟨f0, h0, rfl⟩
theorem tot_upd {fs : List Fi} {s : ByteArray} {g : Fi → Fi} (hn : fs.Pairwise fun a b => a.nm ≠ b.nm) {f : Fi} (h : get fs s = some f) : tot (upd fs s g) + f.dat.length = tot fs + (g f).dat.length := by
  induction fs with
  | nil => cases h
  | cons a r ih =>
    rw [List.pairwise_cons] at hn
    unfold get at h
    rw [List.find?_cons] at h
    unfold tot upd
    rw [List.map_cons, List.map_cons, List.map_cons, List.sum_cons, List.sum_cons]
    by_cases e : a.nm = s
    · rw [if_pos e]
      simp [e] at h
      subst h
      have : (r.map fun f => if f.nm = s then g f else f) = r := by
        conv => rhs; rw [← List.map_id r]
        refine List.map_congr_left fun x hx => ?_
        rw [if_neg (fun q => hn.1 x hx (e.trans q.symm))]; rfl
      rw [this]; omega
    · rw [if_neg e]
      simp only [e, decide_false] at h
      have := ih hn.2 h
      unfold tot upd at this
      omega
theorem tot_del {fs : List Fi} {s : ByteArray} (hn : fs.Pairwise fun a b => a.nm ≠ b.nm) : tot (del fs s) + ((get fs s).map fun f => f.dat.length).getD 0 = tot fs := by
  induction fs with
  | nil => rfl
  | cons a r ih =>
    rw [List.pairwise_cons] at hn
    have ih := ih hn.2
    unfold tot del get at ih ⊢
    rw [List.filter_cons, List.find?_cons, List.map_cons, List.sum_cons]
    by_cases e : a.nm = s
    · simp only [e, ne_eq, not_true_eq_false, decide_false, Bool.false_eq_true, if_false, decide_true, Option.map_some, Option.getD_some]
      have : r.filter (fun f => decide (f.nm ≠ s)) = r := by
        rw [List.filter_eq_self]
        intro x hx
        have := hn.1 x hx
        rw [e] at this
        simpa using fun q : x.nm = s => this q.symm
      simp only [ne_eq] at this
      rw [this]; omega
    · simp only [e, ne_eq, not_false_eq_true, decide_true, if_true, decide_false, List.map_cons, List.sum_cons]
      simp only [ne_eq] at ih
      omega
theorem get_len_le {fs : List Fi} {s : ByteArray} {f : Fi} (h : get fs s = some f) : f.dat.length ≤ tot fs := by
  have hm := (get_mem h).1
  clear h
  induction fs with
  | nil => cases hm
  | cons a r ih =>
    unfold tot at ih ⊢
    rw [List.map_cons, List.sum_cons]
    rcases List.mem_cons.1 hm with rfl | hm
    · omega
    · have := ih hm; omega
theorem tot_app (a b : List Fi) : tot (a ++ b) = tot a + tot b := by simp [tot]
/-! ### Good is kept -/
theorem Good.tick {S : Ds} (h : Good S) : Good (tick S) := ⟨h.cap, h.used, h.room, h.names, h.isnm, h.las, Nat.lt_of_le_of_lt (Nat.sub_le _ _) h.fail, Nat.lt_of_le_of_lt (Nat.sub_le _ _) h.brk, by have := h.cnt; show S.fs.length ≤ S.acts + 1 + 200; omega⟩
theorem Good.down {S : Ds} (h : Good S) : Good { S with down := true } := ⟨h.cap, h.used, h.room, h.names, h.isnm, h.las, h.fail, h.brk, h.cnt⟩
theorem Good.create {S : Ds} (h : Good S) {s : ByteArray} (hs : isNm s = true) (hn : get S.fs s = none) (hc : S.fs.length + 1 ≤ S.acts + 200) : Good (gCreate s S) := by
  refine ⟨h.cap, ?_, h.room, ?_, ?_, ?_, h.fail, h.brk, ?_⟩
  · show S.used = tot (S.fs ++ [_]); rw [tot_app, ← h.used]; rfl
  · show (S.fs ++ [_]).Pairwise _
    rw [List.pairwise_append]
    refine ⟨h.names, List.pairwise_singleton _ _, fun a ha b hb => ?_⟩
    rw [List.mem_singleton.1 hb]
    exact get_none.1 hn a ha
  · intro f hf
    rcases List.mem_append.1 hf with hf | hf
    · exact h.isnm f hf
    · rw [List.mem_singleton.1 hf]; exact hs
  · intro f hf
    rcases List.mem_append.1 hf with hf | hf
    · exact h.las f hf
    · rw [List.mem_singleton.1 hf]; exact Nat.le_refl _
  · show (S.fs ++ [_]).length ≤ S.acts + 200; rw [List.length_append]; exact hc
theorem Good.upd {S : Ds} (h : Good S) {s : ByteArray} {g : Fi → Fi} {u : Nat} {f : Fi} (hg : get S.fs s = some f) (hnm : ∀ f, (g f).nm = f.nm) (hl : ∀ f, f.las ≤ f.dat.length → (g f).las ≤ (g f).dat.length) (hu : u + f.dat.length = S.used + (g f).dat.length) (hr : u ≤ S.cap) : Good { S with fs := upd S.fs s g, used := u } := by
  refine ⟨h.cap, ?_, hr, upd_names hnm h.names, ?_, ?_, h.fail, h.brk, ?_⟩
  · show u = tot (Dk.upd S.fs s g)
    have := tot_upd (g := g) h.names hg
    have := h.used
    omega
  · intro x hx
    obtain ⟨x0, h0, rfl⟩ := mem_upd hx
    split
    · rw [hnm]; exact h.isnm x0 h0
    · exact h.isnm x0 h0
  · intro x hx
    obtain ⟨x0, h0, rfl⟩ := mem_upd hx
    split
    · exact hl _ (h.las x0 h0)
    · exact h.las x0 h0
  · show (Dk.upd S.fs s g).length ≤ _
    unfold Dk.upd
    rw [List.length_map]; exact h.cnt
theorem del_sub (fs : List Fi) (s : ByteArray) : List.Sublist (del fs s) fs := List.filter_sublist
theorem Good.remove {S : Ds} (h : Good S) {s : ByteArray} : Good (gRemove s S) := by
  have ht := tot_del (s := s) h.names
  have hu := h.used
  refine ⟨h.cap, ?_, ?_, h.names.sublist (del_sub _ _), fun f hf => h.isnm f ((del_sub _ _).mem hf), fun f hf => h.las f ((del_sub _ _).mem hf), h.fail, h.brk, Nat.le_trans (del_sub _ _).length_le h.cnt⟩
  · show S.used - _ = tot (del S.fs s); omega
  · show S.used - _ ≤ S.cap; have := h.room; omega
theorem Good.rename {S : Ds} (h : Good S) {s t : ByteArray} (ht : isNm t = true) : Good (gRename s t S) := by
  unfold gRename
  cases hf : get S.fs s with
  | none => exact h
  | some f =>
    have h1 := tot_del (s := s) h.names
    have hn1 : (del S.fs s).Pairwise fun a b => a.nm ≠ b.nm := h.names.sublist (del_sub _ _)
    have h2 := tot_del (s := t) hn1
    have hu := h.used
    have hm := get_mem hf
    rw [hf] at h1
    simp only [Option.map_some, Option.getD_some] at h1
    have hsub : List.Sublist (del (del S.fs s) t) S.fs := (del_sub _ _).trans (del_sub _ _)
    have hlen : (del (del S.fs s) t).length + 1 ≤ S.fs.length := by
      have e1 := (del_sub (del S.fs s) t).length_le
      have e2 : (del S.fs s).length + 1 ≤ S.fs.length := by
        unfold del
        have := List.length_filter_lt_length_iff_exists (l := S.fs) (p := fun f => decide (f.nm ≠ s))
        have := this.2 ⟨f, hm.1, by simp [hm.2]⟩
        omega
      omega
    refine ⟨h.cap, ?_, ?_, ?_, ?_, ?_, h.fail, h.brk, ?_⟩
    · show S.used - _ = tot (del (del S.fs s) t ++ [{ f with nm := t }])
      rw [tot_app]
      have : tot [({ f with nm := t } : Fi)] = f.dat.length := by simp [tot]
      omega
    · show S.used - _ ≤ S.cap
      have := h.room
      omega
    · show (del (del S.fs s) t ++ [{ f with nm := t }]).Pairwise _
      rw [List.pairwise_append]
      refine ⟨h.names.sublist hsub, List.pairwise_singleton _ _, fun a ha b hb => ?_⟩
      rw [List.mem_singleton.1 hb]
      have : get (del (del S.fs s) t) t = none := by rw [get_del, if_pos rfl]
      exact get_none.1 this a ha
    · intro x hx
      rcases List.mem_append.1 hx with hx | hx
      · exact h.isnm x (hsub.mem hx)
      · rw [List.mem_singleton.1 hx]; exact ht
    · intro x hx
      rcases List.mem_append.1 hx with hx | hx
      · exact h.las x (hsub.mem hx)
      · rw [List.mem_singleton.1 hx]; exact h.las f hm.1
    · show (del (del S.fs s) t ++ [{ f with nm := t }]).length ≤ S.acts + 200
      rw [List.length_append]
      have := h.cnt
      show (del (del S.fs s) t).length + 1 ≤ _
      omega
theorem del_none {fs : List Fi} {s : ByteArray} (h : get fs s = none) : del fs s = fs := by
  unfold del
  rw [List.filter_eq_self]
  intro x hx
  simpa using get_none.1 h x hx
theorem gRemove_none {S : Ds} {s : ByteArray} (h : get S.fs s = none) : gRemove s S = S := by
  unfold gRemove
  rw [del_none h, h]
  rfl
theorem left_le (keep : Int) (f : Fi) (h : f.las ≤ f.dat.length) : left keep f ≤ f.dat.length := by unfold left; omega
theorem tot_crashed (keep : Int) (fs : List Fi) : tot (fs.map (crashed keep)) ≤ tot fs := by
  induction fs with
  | nil => exact Nat.le_refl _
  | cons a r ih =>
    unfold tot at ih ⊢
    rw [List.map_cons, List.map_cons, List.sum_cons, List.map_cons, List.sum_cons]
    have : (crashed keep a).dat.length ≤ a.dat.length := by simp [crashed]; omega
    omega
theorem Good.crash {S : Ds} (h : Good S) (keep : Int) : Good (crash keep S) := by
  refine ⟨h.cap, rfl, Nat.le_trans (tot_crashed keep S.fs) (by rw [← h.used]; exact h.room), ?_, ?_, ?_, Nat.zero_lt_succ _, Nat.zero_lt_succ _, ?_⟩
  · show (S.fs.map (crashed keep)).Pairwise _
    rw [List.pairwise_map]
    exact h.names.imp fun hab => hab
  · intro f hf
    obtain ⟨f0, h0, rfl⟩ := List.mem_map.1 hf
    exact h.isnm f0 h0
  · intro f hf
    obtain ⟨f0, h0, rfl⟩ := List.mem_map.1 hf
    exact Nat.le_refl _
  · show (S.fs.map (crashed keep)).length ≤ _; rw [List.length_map]; exact h.cnt
end Dk
end Go.Proofs.YtnakaomgceoobaaGreat
