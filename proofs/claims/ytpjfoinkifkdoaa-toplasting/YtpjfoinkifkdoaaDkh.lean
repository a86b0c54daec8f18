/-
  THE LAW's SCRIPTS: act and acts.
-/
import Derived.Test.YtpjfoinkifkdoaaDkf
namespace Go.Proofs.Ytpjfoinkifkdoaa
open Go.RowKit Go.Maps
namespace Dk
open Vt
structure Op7 where
  kind : Int
  nm : ByteArray
  to : ByteArray
  dat : List Nat
  n : Int
  m : Int
  done : Bool
def op0 : Op7 := ⟨0, ⟨#[]⟩, ⟨#[]⟩, [], 0, 0, false⟩
def actS (S : Ds) (o : Op7) : Nat × Ds :=
  if o.kind = 1 then create S o.nm else if o.kind = 2 then append S o.nm o.dat else if o.kind = 3 then sync S o.nm else if o.kind = 4 then rename S o.nm o.to else if o.kind = 5 then remove S o.nm
  else if o.kind = 6 then trunc S o.nm o.n else if o.kind = 7 then read S o.nm o.n o.m else (0, S)
def actsS (S : Ds) (l : List Op7) : Ds := l.foldl (fun S o => (actS S o).2) S
theorem run_acts (S : Ds) (g : Ds → Ds) (hg : ∀ T, (g T).acts = T.acts) : (run S g).2.acts = S.acts + 1 := by
  unfold run
  split
  · split
    · show (g (tick S)).acts = _; rw [hg]; rfl
    · rfl
  · split
    · rfl
    · show (g (tick S)).acts = _; rw [hg]; rfl
theorem actOf_acts (S : Ds) (r : Nat) (g : Ds → Ds) (hg : ∀ T, (g T).acts = T.acts) : (actOf S r g).2.acts ≤ S.acts + 1 := by
  unfold actOf
  split
  · exact Nat.le_succ _
  · rw [run_acts S g hg]; exact Nat.le_refl _
theorem actS_acts (S : Ds) (o : Op7) : (actS S o).2.acts ≤ S.acts + 1 := by
  unfold actS
  split
  · exact actOf_acts _ _ _ fun _ => rfl
  · split
    · exact actOf_acts _ _ _ fun _ => rfl
    · split
      · exact actOf_acts _ _ _ fun _ => rfl
      · split
        · exact actOf_acts _ _ _ fun T => by unfold gRename; split <;> rfl
        · split
          · exact actOf_acts _ _ _ fun _ => rfl
          · split
            · exact actOf_acts _ _ _ fun _ => rfl
            · split
              · exact actOf_acts _ _ _ fun _ => rfl
              · exact Nat.le_succ _
def opc (o : Op7) (ua : Option Addr) (uc : Nat) : List Value := [.int .i64 o.kind, .string o.nm, .string o.to, .slice ua o.dat.length uc, .int .i64 o.n, .int .i64 o.m, .bool o.done]
end Dk
end Go.Proofs.Ytpjfoinkifkdoaa
