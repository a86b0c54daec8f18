/-
  WHAT DiskLasts ASKS, PLAINLY: what was synced is there behind any acts that do not touch it, and any crash.
-/
import Derived.Test.YtpjfoinkifkdoaaDkh
namespace Go.Proofs.Ytpjfoinkifkdoaa
namespace Dk
def nmL : ByteArray := ⟨#[108, 97, 115, 116, 115]⟩
def bT : List Nat := [116, 104, 101, 115, 101, 32, 98, 121, 116, 101, 115]
/-- a disk that is up, and not armed -/
def Ok (S : Ds) : Prop := S.down = false ∧ S.fail = 0 ∧ S.brk = 0
theorem actOf_ok {S : Ds} (h : Ok S) (r : Nat) (g : Ds → Ds) : actOf S r g = if r ≠ 0 then (r, S) else (0, g (tick S)) := by
  have e : run S g = (0, g (tick S)) := by
    unfold run
    rw [h.2.1, h.2.2, if_neg (by decide), if_neg (by decide)]
  unfold actOf
  rw [e]
theorem Ok.tick {S : Ds} (h : Ok S) : Ok (tick S) := ⟨h.1, by show S.fail - 1 = 0; rw [h.2.1], by show S.brk - 1 = 0; rw [h.2.2]⟩
theorem actOf_keeps {S : Ds} (h : Ok S) (r : Nat) (g : Ds → Ds) (hg : ∀ T, Ok T → Ok (g T)) : Ok (actOf S r g).2 := by
  rw [actOf_ok h]
  split
  · exact h
  · exact hg _ h.tick
theorem actS_ok {S : Ds} (h : Ok S) (o : Op7) : Ok (actS S o).2 := by
  unfold actS
  split
  · exact actOf_keeps h _ _ fun T q => q
  · split
    · exact actOf_keeps h _ _ fun T q => q
    · split
      · exact actOf_keeps h _ _ fun T q => q
      · split
        · exact actOf_keeps h _ _ fun T q => by unfold gRename; split <;> exact q
        · split
          · exact actOf_keeps h _ _ fun T q => q
          · split
            · exact actOf_keeps h _ _ fun T q => q
            · split
              · exact actOf_keeps h _ _ fun T q => q
              · exact h
theorem actsS_ok {S : Ds} (h : Ok S) (l : List Op7) : Ok (actsS S l) := by
  induction l generalizing S with
  | nil => exact h
  | cons o r ih => exact ih (actS_ok h o)
/-- the file is there; its first n bytes are these, and last -/
def LI (n : Nat) (d0 : List Nat) (S : Ds) : Prop := Ok S ∧ ∃ f, get S.fs nmL = some f ∧ n ≤ f.las ∧ f.dat.take n = d0
def touches (o : Op7) : Prop := (o.kind = 4 ∧ (o.nm = nmL ∨ o.to = nmL)) ∨ ((o.kind = 5 ∨ o.kind = 6) ∧ o.nm = nmL)
theorem LI.of {n : Nat} {d0 : List Nat} {S : Ds} (h : LI n d0 S) {r : Nat} {g : Ds → Ds} (hok : ∀ T, Ok T → Ok (g T)) (hg : r = 0 → ∃ f, get (g (tick S)).fs nmL = some f ∧ n ≤ f.las ∧ f.dat.take n = d0) : LI n d0 (actOf S r g).2 := by
  refine ⟨actOf_keeps h.1 r g hok, ?_⟩
  rw [actOf_ok h.1]
  by_cases hr : r = 0
  · rw [if_neg (by omega)]
    exact hg hr
  · rw [if_pos hr]
    exact h.2
theorem LI.act {n : Nat} {d0 : List Nat} {S : Ds} (h : LI n d0 S) (hG : Good S) {o : Op7} (ht : ¬ touches o) : LI n d0 (actS S o).2 := by
  obtain ⟨f, hf, hl, hd⟩ := h.2
  have hlen : n ≤ f.dat.length := Nat.le_trans hl (hG.las f (get_mem hf).1)
  unfold actS
  split
  · refine h.of (fun T q => q) fun hr => ⟨f, ?_, hl, hd⟩
    have hn : get S.fs o.nm = none := by
      unfold rCreate at hr
      split at hr
      · rename_i q; exact absurd hr q
      · split at hr
        · cases hr
        · rename_i q
          cases hg : get S.fs o.nm
          · rfl
          · rw [hg] at q; simp at q
    have hne : o.nm ≠ nmL := fun q => by rw [q, hf] at hn; cases hn
    show get (S.fs ++ [⟨o.nm, [], 0⟩]) nmL = some f
    rw [get_snoc (g := ⟨o.nm, [], 0⟩) hn, if_neg hne]; exact hf
  · split
    · refine h.of (fun T q => q) fun _ => ?_
      show ∃ f, get (upd S.fs o.nm _) nmL = some f ∧ _
      rw [get_upd (g := fun f => { f with dat := f.dat ++ o.dat }) (fun _ => rfl), hf]
      by_cases e : nmL = o.nm
      · simp only [Option.map_some, if_pos e]
        exact ⟨_, rfl, hl, by rw [List.take_append_of_le_length hlen]; exact hd⟩
      · simp only [Option.map_some, if_neg e]
        exact ⟨_, rfl, hl, hd⟩
    · split
      · refine h.of (fun T q => q) fun _ => ?_
        show ∃ f, get (upd S.fs o.nm _) nmL = some f ∧ _
        rw [get_upd (g := fun f => { f with las := f.dat.length }) (fun _ => rfl), hf]
        by_cases e : nmL = o.nm
        · simp only [Option.map_some, if_pos e]
          exact ⟨_, rfl, hlen, hd⟩
        · simp only [Option.map_some, if_neg e]
          exact ⟨_, rfl, hl, hd⟩
      · split
        · rename_i hk
          have h1 : o.nm ≠ nmL := fun q => ht (.inl ⟨hk, .inl q⟩)
          have h2 : o.to ≠ nmL := fun q => ht (.inl ⟨hk, .inr q⟩)
          refine h.of (fun T q => by unfold gRename; split <;> exact q) fun _ => ⟨f, ?_, hl, hd⟩
          unfold gRename
          split
          · exact hf
          · rename_i f1 hf1
            show get (del (del S.fs o.nm) o.to ++ [{ f1 with nm := o.to }]) nmL = some f
            rw [get_snoc (g := { f1 with nm := o.to }) (by rw [get_del, if_pos rfl]), if_neg h2, get_del, if_neg (fun q => h2 q.symm), get_del, if_neg (fun q => h1 q.symm)]
            exact hf
        · split
          · rename_i hk
            have h1 : o.nm ≠ nmL := fun q => ht (.inr ⟨.inl hk, q⟩)
            refine h.of (fun T q => q) fun _ => ⟨f, ?_, hl, hd⟩
            show get (del S.fs o.nm) nmL = some f
            rw [get_del, if_neg (fun q => h1 q.symm)]; exact hf
          · split
            · rename_i hk
              have h1 : o.nm ≠ nmL := fun q => ht (.inr ⟨.inr hk, q⟩)
              refine h.of (fun T q => q) fun _ => ⟨f, ?_, hl, hd⟩
              show get (upd S.fs o.nm _) nmL = some f
              rw [get_upd (g := fun f => { f with dat := f.dat.take o.n.toNat, las := min f.las o.n.toNat }) (fun _ => rfl), hf]
              simp only [Option.map_some, if_neg (fun q : nmL = o.nm => h1 q.symm)]
            · split
              · exact h.of (fun T q => q) fun _ => ⟨f, hf, hl, hd⟩
              · exact h
theorem look_of {S : Ds} (h : Ok S) {f : Fi} (hf : get S.fs nmL = some f) (b : Bool) (hb : b = true) : look S nmL b = 0 := by
  have e1 : bar S (isNm nmL && b) = 0 := by
    unfold bar
    rw [h.1, hb]; rfl
  unfold look
  rw [e1, hf]; rfl
/-- a file is made, or is there -/
theorem create_L {S : Ds} (h : Ok S) : ((create S nmL).1 = 0 ∨ (create S nmL).1 = 72) ∧ Ok (create S nmL).2 ∧ ∃ f, get (create S nmL).2.fs nmL = some f := by
  have e1 : bar S (isNm nmL) = 0 := by unfold bar; rw [h.1]; rfl
  unfold create
  refine ⟨?_, actOf_keeps h _ _ fun T q => q, ?_⟩
  · rw [actOf_ok h]
    unfold rCreate
    rw [e1]
    cases hg : get S.fs nmL <;> simp
  · rw [actOf_ok h]
    unfold rCreate
    rw [e1]
    cases hg : get S.fs nmL with
    | none =>
      simp only [ne_eq, not_true_eq_false, if_false, Option.isSome_none, Bool.false_eq_true]
      show ∃ f, get (S.fs ++ [⟨nmL, [], 0⟩]) nmL = some f
      rw [get_snoc (g := ⟨nmL, [], 0⟩) hg]
      exact ⟨_, if_pos rfl⟩
    | some f =>
      simp only [ne_eq, not_true_eq_false, if_false, Option.isSome_some, if_true]
      exact ⟨f, hg⟩
theorem append_L {S : Ds} (h : Ok S) {f : Fi} (hf : get S.fs nmL = some f) (l : List Nat) : Ok (append S nmL l).2 ∧ ∃ f, get (append S nmL l).2.fs nmL = some f := by
  unfold append
  refine ⟨actOf_keeps h _ _ fun T q => q, ?_⟩
  rw [actOf_ok h]
  split
  · exact ⟨f, hf⟩
  · show ∃ f, get (upd S.fs nmL _) nmL = some f
    rw [get_upd (g := fun f => { f with dat := f.dat ++ l }) (fun _ => rfl), hf]
    exact ⟨_, rfl⟩
theorem sync_L {S : Ds} (h : Ok S) {f : Fi} (hf : get S.fs nmL = some f) : (sync S nmL).1 = 0 ∧ Ok (sync S nmL).2 ∧ get (sync S nmL).2.fs nmL = some { f with las := f.dat.length } := by
  unfold sync
  refine ⟨?_, actOf_keeps h _ _ fun T q => q, ?_⟩
  · rw [actOf_ok h, look_of h hf true rfl]; rfl
  · rw [actOf_ok h, look_of h hf true rfl]
    show get (upd S.fs nmL _) nmL = _
    rw [get_upd (g := fun f => { f with las := f.dat.length }) (fun _ => rfl), hf]
    simp
theorem read_L {S : Ds} (h : Ok S) {f : Fi} (hf : get S.fs nmL = some f) (n : Nat) : (read S nmL 0 (n : Int)).1 = 0 ∧ Ok (read S nmL 0 (n : Int)).2 ∧ (read S nmL 0 (n : Int)).2.fs = S.fs ∧ bytes S nmL 0 (n : Int) = f.dat.take n ∧ (read S nmL 0 (n : Int)).2.acts ≤ S.acts + 1 := by
  have e1 : (decide ((0 : Int) ≤ 0) && decide ((0 : Int) ≤ (n : Int))) = true := by simp
  unfold read
  refine ⟨?_, actOf_keeps h _ _ fun T q => q, ?_, ?_, actOf_acts _ _ _ fun _ => rfl⟩
  · rw [actOf_ok h, e1, look_of h hf true rfl]; rfl
  · rw [actOf_ok h, e1, look_of h hf true rfl]; rfl
  · unfold bytes
    rw [hf]
    simp
theorem crash_L {n : Nat} {d0 : List Nat} {S : Ds} (h : LI n d0 S) (hG : Good S) (keep : Int) : ∃ f, get (crash keep S).fs nmL = some f ∧ f.dat.take n = d0 := by
  obtain ⟨f, hf, hl, hd⟩ := h.2
  have hlen := hG.las f (get_mem hf).1
  refine ⟨crashed keep f, ?_, ?_⟩
  · show get (S.fs.map (crashed keep)) nmL = _
    unfold get at hf ⊢
    rw [List.find?_map]
    have : ((fun f : Fi => decide (f.nm = nmL)) ∘ crashed keep) = fun f : Fi => decide (f.nm = nmL) := rfl
    rw [this, hf]; rfl
  · show (f.dat.take (left keep f)).take n = d0
    rw [List.take_take, Nat.min_eq_left (by unfold left; omega)]
    exact hd
theorem crash_ok (keep : Int) (S : Ds) : Ok (crash keep S) := ⟨rfl, rfl, rfl⟩
end Dk
end Go.Proofs.Ytpjfoinkifkdoaa
