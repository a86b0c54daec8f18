/-
  THE LAW's SCRIPTS: act and acts.
-/
import Derived.Test.YtijdaohddefbmaaDkf
namespace Go.Proofs.Ytijdaohddefbmaa
open Go.RowKit Go.Maps
namespace Dk
open Vt
structure Op7 where
  kind : Int
  nm : ByteArray
  to : ByteArray
  dat : List Nat
  n : Int
  m : Int
  done : Bool
def op0 : Op7 := ⟨0, ⟨#[]⟩, ⟨#[]⟩, [], 0, 0, false⟩
def actS (S : Ds) (o : Op7) : Nat × Ds :=
  if o.kind = 1 then create S o.nm else if o.kind = 2 then append S o.nm o.dat else if o.kind = 3 then sync S o.nm else if o.kind = 4 then rename S o.nm o.to else if o.kind = 5 then remove S o.nm
  else if o.kind = 6 then trunc S o.nm o.n else if o.kind = 7 then read S o.nm o.n o.m else (0, S)
def actsS (S : Ds) (l : List Op7) : Ds := l.foldl (fun S o => (actS S o).2) S
theorem run_acts (S : Ds) (g : Ds → Ds) (hg : ∀ T, (g T).acts = T.acts) : (run S g).2.acts = S.acts + 1 := by
  unfold run
  split
  · split
    · show (g (tick S)).acts = _; rw [hg]; rfl
    · rfl
  · split
    · rfl
    · show (g (tick S)).acts = _; rw [hg]; rfl
theorem actOf_acts (S : Ds) (r : Nat) (g : Ds → Ds) (hg : ∀ T, (g T).acts = T.acts) : (actOf S r g).2.acts ≤ S.acts + 1 := by
  unfold actOf
  split
  · exact Nat.le_succ _
  · rw [run_acts S g hg]; exact Nat.le_refl _
theorem actS_acts (S : Ds) (o : Op7) : (actS S o).2.acts ≤ S.acts + 1 := by
  unfold actS
  split
  · exact actOf_acts _ _ _ fun _ => rfl
  · split
    · exact actOf_acts _ _ _ fun _ => rfl
    · split
      · exact actOf_acts _ _ _ fun _ => rfl
      · split
        · exact actOf_acts _ _ _ fun T => by unfold gRename; split <;> rfl
        · split
          · exact actOf_acts _ _ _ fun _ => rfl
          · split
            · exact actOf_acts _ _ _ fun _ => rfl
            · split
              · exact actOf_acts _ _ _ fun _ => rfl
              · exact Nat.le_succ _
abbrev TO : TypeId := 31
def opc (o : Op7) (ua : Option Addr) (uc : Nat) : List Value := [.int .i64 o.kind, .string o.nm, .string o.to, .slice ua o.dat.length uc, .int .i64 o.n, .int .i64 o.m, .bool o.done]
set_option maxRecDepth 100000 in
set_option maxHeartbeats 4000000 in
theorem lact_is (w : World) (d : Nat) (O : Nat → Prop) (S : Ds) (o : Op7) (ua : Option Addr) (uc : Nat) (h : DK w d O S) (ha : S.acts < 4611686018427387904) (hI : IsB w (.slice ua o.dat.length uc) o.dat) (hn : o.dat ≠ [] → ∀ b off n c, Value.slice ua o.dat.length uc = .slice (some ⟨b, off, none⟩) n c → b ≠ d) :
    Calls Try.prog 8 #[.pointer (some ⟨d, 0, none⟩), .agg (opc o ua uc).toArray] w fun e w' => e = .returned (.int .i64 ((actS S o).1 : Int)) ∧ Nx O w d (actS S o).2 w' := by
  obtain ⟨kind, nm, to, dat, n, m, done⟩ := o
  simp only [opc] at *
  obtain ⟨W, hW⟩ : ∃ W, W = w.alloc (.cells #[.int .i64 kind, .string nm, .string to, .slice ua dat.length uc, .int .i64 n, .int .i64 m, .bool done] TO) := ⟨_, rfl⟩
  have hK : DK W d O S := by rw [hW]; exact h.keep (fun b q => (MapKept.heap_alloc w _).2 b (h.olt b q)) (by simp)
  have htW : Tr O w W := by rw [hW]; exact Tr.alloc O w _
  have hIW : IsB W (.slice ua dat.length uc) dat := by rw [hW]; exact hI.below ((Below.refl _ w).alloc (Nat.le_refl _) _)
  have HW := hd hW
  clear hW
  by_cases k1 : kind = 1
  · subst k1
    have HC := hd (create_is W d O S nm hK ha)
    have HA : Hid (actS S ⟨1, nm, to, dat, n, m, done⟩ = create S nm) := rfl
    rw [HA.out]
    clear h hI hn hK hIW HA
    go_enter Try.func8, Try.ntmps8
    go_wp2_with fail
    rw [← HW.out]
    refine Calls.mono HC.out ?_
    rintro e w1 ⟨rfl, hx⟩
    have HN := hd (hx.after htW)
    clear hx
    go_wp2_with fail
    go_ret
    exact ⟨rfl, HN.out⟩
  by_cases k2 : kind = 2
  · subst k2
    have HC := hd (append_is W d O S nm _ dat hK ha hIW hn)
    have HA : Hid (actS S ⟨2, nm, to, dat, n, m, done⟩ = append S nm dat) := rfl
    rw [HA.out]
    clear h hI hn hK hIW HA k1
    go_enter Try.func8, Try.ntmps8
    go_wp2_with fail
    rw [← HW.out]
    refine Calls.mono HC.out ?_
    rintro e w1 ⟨rfl, hx⟩
    have HN := hd (hx.after htW)
    clear hx
    go_wp2_with fail
    go_ret
    exact ⟨rfl, HN.out⟩
  by_cases k3 : kind = 3
  · subst k3
    have HC := hd (sync_is W d O S nm hK ha)
    have HA : Hid (actS S ⟨3, nm, to, dat, n, m, done⟩ = sync S nm) := rfl
    rw [HA.out]
    clear h hI hn hK hIW HA k1 k2
    go_enter Try.func8, Try.ntmps8
    go_wp2_with fail
    rw [← HW.out]
    refine Calls.mono HC.out ?_
    rintro e w1 ⟨rfl, hx⟩
    have HN := hd (hx.after htW)
    clear hx
    go_wp2_with fail
    go_ret
    exact ⟨rfl, HN.out⟩
  by_cases k4 : kind = 4
  · subst k4
    have HC := hd (rename_is W d O S nm to hK ha)
    have HA : Hid (actS S ⟨4, nm, to, dat, n, m, done⟩ = rename S nm to) := rfl
    rw [HA.out]
    clear h hI hn hK hIW HA k1 k2 k3
    go_enter Try.func8, Try.ntmps8
    go_wp2_with fail
    rw [← HW.out]
    refine Calls.mono HC.out ?_
    rintro e w1 ⟨rfl, hx⟩
    have HN := hd (hx.after htW)
    clear hx
    go_wp2_with fail
    go_ret
    exact ⟨rfl, HN.out⟩
  by_cases k5 : kind = 5
  · subst k5
    have HC := hd (remove_is W d O S nm hK ha)
    have HA : Hid (actS S ⟨5, nm, to, dat, n, m, done⟩ = remove S nm) := rfl
    rw [HA.out]
    clear h hI hn hK hIW HA k1 k2 k3 k4
    go_enter Try.func8, Try.ntmps8
    go_wp2_with fail
    rw [← HW.out]
    refine Calls.mono HC.out ?_
    rintro e w1 ⟨rfl, hx⟩
    have HN := hd (hx.after htW)
    clear hx
    go_wp2_with fail
    go_ret
    exact ⟨rfl, HN.out⟩
  by_cases k6 : kind = 6
  · subst k6
    have HC := hd (trunc_is W d O S nm n hK ha)
    have HA : Hid (actS S ⟨6, nm, to, dat, n, m, done⟩ = trunc S nm n) := rfl
    rw [HA.out]
    clear h hI hn hK hIW HA k1 k2 k3 k4 k5
    go_enter Try.func8, Try.ntmps8
    go_wp2_with fail
    rw [← HW.out]
    refine Calls.mono HC.out ?_
    rintro e w1 ⟨rfl, hx⟩
    have HN := hd (hx.after htW)
    clear hx
    go_wp2_with fail
    go_ret
    exact ⟨rfl, HN.out⟩
  by_cases k7 : kind = 7
  · subst k7
    have HC := hd (read_is W d O S nm n m hK ha)
    have HA : Hid (actS S ⟨7, nm, to, dat, n, m, done⟩ = read S nm n m) := rfl
    rw [HA.out]
    clear h hI hn hK hIW HA k1 k2 k3 k4 k5 k6
    go_enter Try.func8, Try.ntmps8
    go_wp2_with fail
    rw [← HW.out]
    refine Calls.mono HC.out ?_
    rintro e w1 ⟨v, rfl, hK1, ht1, _⟩
    have HN : Hid (Nx O w d (read S nm n m).2 w1) := Nx.after ⟨O, hK1, ht1, fun b q => .inl q⟩ htW
    clear hK1 ht1
    go_wp2_with fail
    go_ret
    exact ⟨rfl, HN.out⟩
  · have HA : Hid (actS S ⟨kind, nm, to, dat, n, m, done⟩ = (0, S)) := by
      show actS _ _ = _
      simp only [actS]
      rw [if_neg k1, if_neg k2, if_neg k3, if_neg k4, if_neg k5, if_neg k6, if_neg k7]
    rw [HA.out]
    have HN : Hid (Nx O w d S W) := Nx.after (Nx.same hK) htW
    clear h hI hn hK hIW HA
    go_enter Try.func8, Try.ntmps8
    go_wp2_with fail
    rw [← HW.out]
    go_ret
    exact ⟨rfl, HN.out⟩
end Dk
end Go.Proofs.Ytijdaohddefbmaa
