/-
  BYTES AS A STRING, A STRING'S BYTES. No program here.
-/
import Derived.Test.YtfnbfgkoicdiaaaV0
namespace Go.Proofs.Ytfnbfgkoicdiaaa
namespace Vt
/-- bytes as a string -/
def str (l : List Nat) : ByteArray := (l.map fun x => ((x : Nat) : Int)).foldl (fun r n => r.push (UInt8.ofNat n.toNat)) ByteArray.empty
theorem str_data (l : List Nat) : (str l).data = (l.map UInt8.ofNat).toArray := by
  have key : ∀ (l : List Nat) (r : ByteArray), ((l.map fun x => ((x : Nat) : Int)).foldl (fun r n => r.push (UInt8.ofNat n.toNat)) r).data = r.data ++ (l.map UInt8.ofNat).toArray := by
    intro l
    induction l with
    | nil => intro r; simp
    | cons x q ih =>
      intro r
      simp only [List.map_cons, List.foldl_cons, Int.toNat_natCast]
      rw [ih]
      simp [ByteArray.push]
  have := key l ByteArray.empty
  unfold str
  rw [this]; simp
/-- a string's bytes -/
def bl (s : ByteArray) : List Nat := s.data.toList.map UInt8.toNat
theorem bl_len (s : ByteArray) : (bl s).length = s.size := by unfold bl; rw [List.length_map, Array.length_toList]; rfl
theorem bl_byt (s : ByteArray) : Byt (bl s) := by
  intro x hx
  unfold bl at hx
  obtain ⟨y, _, rfl⟩ := List.mem_map.1 hx
  exact y.toNat_lt
theorem bl_str {l : List Nat} (h : Byt l) : bl (str l) = l := by
  unfold bl
  rw [str_data, List.map_map]
  induction l with
  | nil => rfl
  | cons x q ih =>
    have hx := h x List.mem_cons_self
    rw [List.map_cons, ih fun z hz => h z (List.mem_cons_of_mem _ hz)]
    congr 1
    simp only [Function.comp, UInt8.toNat_ofNat']
    omega
theorem str_bl (s : ByteArray) : str (bl s) = s := by
  refine ByteArray.ext ?_
  rw [str_data]
  unfold bl
  rw [List.map_map, show (UInt8.ofNat ∘ UInt8.toNat) = id by funext y; simp]
  simp
theorem bl_inj {s t : ByteArray} (h : bl s = bl t) : s = t := by rw [← str_bl s, h, str_bl]
theorem str_size {l : List Nat} (h : Byt l) : (str l).size = l.length := by rw [← bl_len, bl_str h]
theorem str_inj {la lb : List Nat} (ha : Byt la) (hb : Byt lb) : str la = str lb ↔ la = lb := by
  constructor
  · intro h
    have h2 := congrArg ByteArray.data h
    rw [str_data, str_data] at h2
    have h3 : la.map UInt8.ofNat = lb.map UInt8.ofNat := by simpa using h2
    clear h h2
    induction la generalizing lb with
    | nil => cases lb with
      | nil => rfl
      | cons y r => simp at h3
    | cons x q ih =>
      cases lb with
      | nil => simp at h3
      | cons y r =>
        simp only [List.map_cons, List.cons.injEq] at h3
        have hx := ha x List.mem_cons_self
        have hy := hb y List.mem_cons_self
        have e := congrArg UInt8.toNat h3.1
        simp only [UInt8.toNat_ofNat'] at e
        rw [ih (fun z hz => ha z (List.mem_cons_of_mem _ hz)) (fun z hz => hb z (List.mem_cons_of_mem _ hz)) h3.2]
        congr 1
        omega
  · intro h; rw [h]
end Vt
end Go.Proofs.Ytfnbfgkoicdiaaa
