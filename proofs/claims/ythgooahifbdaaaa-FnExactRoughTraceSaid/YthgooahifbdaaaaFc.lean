/- Contracts: convolutions with a product that is told, filters that are applied, on both sides. Condition: the lists are read. -/
import Derived.Test.YthgooahifbdaaaaFb
import Derived.Test.YthgooahifbdaaaaTf
import Derived.Test.YthgooahifbdaaaaTv
namespace Go.Proofs.Ythgooahifbdaaaa
open Go.RowKit Ieee

theorem getD_get {M : List (Option Nat)} {i : Nat} (h : i < M.length) : M.getD i none = M[i] := by simp [List.getD, h]
theorem lst_self {L : List (Option Nat)} {n : Nat} (h : L.length = n) : lst (fun j => L.getD j none) n = L := by
  apply List.ext_getElem
  · rw [lst_len, h]
  · intro i h1 h2
    have e1 := lst_at (F := fun j => L.getD j none) (j := i) (n := n) (by omega)
    rw [getD_get h1] at e1
    exact e1.trans (getD_get h2)
theorem RdF.take {w : World} {B n m : Nat} {A : Option Addr} {L : List (Option Nat)} (h : RdF w B A n L) (hm : m ≤ n) : RdF w B A m (L.take m) := by
  refine ⟨by rw [List.length_take, h.len]; omega, fun k hk => ?_⟩
  obtain ⟨b, off, hA, hb, hj⟩ := h.at_ k (by omega)
  refine ⟨b, off, hA, hb, fun j hjm => ?_⟩
  obtain ⟨r, h1, h2⟩ := hj j (by omega)
  refine ⟨r, h1, ?_⟩
  have : (L.take m).getD j none = L.getD j none := by simp [List.getD, hjm]
  rw [this]; exact h2

def okAp (n m : Nat) : Bool := tlen n && tlen m

end Go.Proofs.Ythgooahifbdaaaa
