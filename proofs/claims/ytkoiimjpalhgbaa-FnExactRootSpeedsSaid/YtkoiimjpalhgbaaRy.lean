/- Contracts: rays to a boundary, and back, on both sides. Condition: the ground is read. -/
import Derived.Test.YtkoiimjpalhgbaaLt
import Derived.Deep.RegionWith
namespace Go.Proofs.Ytkoiimjpalhgbaa
open Go.RowKit Ieee

def legT (P : Option Nat) (y : Ly) : Option Nat := fop .quo .f32 y.t (fop .mul .f32 y.s (fcos (fsine P y.s)))
def legW (P : Option Nat) (y : Ly) : Option Nat := fop .quo .f32 (fop .mul .f32 y.t (fsine P y.s)) (fcos (fsine P y.s))
def rayT (L : List Ly) (P : Option Nat) : Nat → Option Nat
  | 0 => fz
  | j + 1 => fop .add .f32 (rayT L P j) (legT P (L.getD j default))
def rayW (L : List Ly) (P : Option Nat) : Nat → Option Nat
  | 0 => fz
  | j + 1 => fop .add .f32 (rayW L P j) (legW P (L.getD j default))
/-- The ray comes through the first layers. -/
def rayC (L : List Ly) (P : Option Nat) : Nat → Bool
  | 0 => true
  | j + 1 => rayC L P j && lt1 (fsine P (L.getD j default).s)
def rayFin (L : List Ly) (P : Option Nat) (m : Nat) : Bool := ffin .f32 (rayT L P m) && ffin .f32 (rayW L P m)
theorem rayC_no {L : List Ly} {P : Option Nat} {j : Nat} (h : lt1 (fsine P (L.getD j default).s) = false) : ∀ m, j < m → rayC L P m = false
  | m + 1, hm => by
    unfold rayC
    by_cases hj : j = m
    · subst hj; rw [h]; simp
    · rw [rayC_no h m (by omega)]; rfl
theorem ray_take (L : List Ly) (P : Option Nat) (m : Nat) : ∀ j, j ≤ m → rayT (L.take m) P j = rayT L P j ∧ rayW (L.take m) P j = rayW L P j ∧ rayC (L.take m) P j = rayC L P j
  | 0, _ => ⟨rfl, rfl, rfl⟩
  | j + 1, hj => by
    obtain ⟨h1, h2, h3⟩ := ray_take L P m j (by omega)
    unfold rayT rayW rayC
    rw [h1, h2, h3, getD_take (by omega)]
    exact ⟨rfl, rfl, rfl⟩

end Go.Proofs.Ytkoiimjpalhgbaa
