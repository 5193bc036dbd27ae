/- What is peeled of a trace: lemmas. No condition. -/
import Derived.Test.YthgmkipifolbfabVa
import Derived.Test.YthgmkipifolbfabUz
import Derived.Deep.RegionHeld3
namespace Go.Proofs.Ythgmkipifolbfab
open Go.RowKit Ieee

def okQ (L : List (Option Nat)) (S : Option Nat) (i : Int) (n : Nat) : Bool := tlen n && (fsurf S && (inB i 1 24 && (le2 i.toNat n && okPl L S i.toNat)))
theorem okQ_a {L : List (Option Nat)} {S : Option Nat} {i : Int} {n : Nat} (h : tlen n = false) : okQ L S i n = false := by unfold okQ; rw [h]; rfl
theorem okQ_b {L : List (Option Nat)} {S : Option Nat} {i : Int} {n : Nat} (h : fsurf S = false) : okQ L S i n = false := by unfold okQ; rw [h]; simp
theorem okQ_c {L : List (Option Nat)} {S : Option Nat} {i : Int} {n : Nat} (h : inB i 1 24 = false) : okQ L S i n = false := by unfold okQ; rw [h]; simp
theorem okQ_d {L : List (Option Nat)} {S : Option Nat} {i : Int} {n : Nat} (h : le2 i.toNat n = false) : okQ L S i n = false := by unfold okQ; rw [h]; simp
theorem okQ_e {L : List (Option Nat)} {S : Option Nat} {i : Int} {n : Nat} (h : okPl L S i.toNat = false) : okQ L S i n = false := by unfold okQ; rw [h]; simp
theorem okQ_yes {L : List (Option Nat)} {S : Option Nat} {i : Int} {n : Nat} (h1 : tlen n = true) (h2 : fsurf S = true) (h3 : inB i 1 24 = true) (h4 : le2 i.toNat n = true) (h5 : okPl L S i.toNat = true) : okQ L S i n = true := by unfold okQ; rw [h1, h2, h3, h4, h5]; rfl

theorem RowO.set0 {cs : Array Value} {n t r : Nat} {F G : Nat → Option Nat} (h : RowO cs 0 n F) (hs : n ≤ cs.size) (ht : t < n) (hr : Fl .f32 r (G t)) (hFG : ∀ j, j < n → j ≠ t → F j = G j) : RowO (cs.setIfInBounds t (.float .f32 r)) 0 n G := by
  have := RowO.set h (by omega) ht hr hFG
  rwa [Nat.zero_add] at this
theorem RowO.cell0 {w : World} {g n k : Nat} {cs : Array Value} {F : Nat → Option Nat} (h : RowO cs 0 n F) (hg : w.heap[g]? = some (.cells cs 29 (0, 0))) (hk : k < n) :
    ∃ r, w.cell? ⟨g, k, none⟩ = some (.float .f32 r) ∧ w.frozen? ⟨g, k, none⟩ = false ∧ Fl .f32 r (F k) := by
  have := RowO.cell h hg hk
  rwa [Nat.zero_add] at this
theorem owns_len {W : World} {base n m : Nat} {v : Value} {e : TypeId} {xs : List Value} (h : n = m) (ho : W.ownsRow base e 1 v m xs) : W.ownsRow base e 1 v n xs := by rw [h]; exact ho
/-- The float of a cell, as it lies there. -/
def rdc (V : World) (p : Addr) : Nat := match V.cell? p with | some (.float _ r) => r | _ => 0
theorem rdc_eq {V : World} {p : Addr} {r : Nat} (h : V.cell? p = some (.float .f32 r)) : rdc V p = r := by unfold rdc; rw [h]
theorem rdc_of {V : World} {p : Addr} {r : Nat} (h : V.cell? p = some (.float .f32 r)) : V.cell? p = some (.float .f32 (rdc V p)) := by rw [rdc_eq h]; exact h
theorem rdc_set {W : World} {p : Addr} {r : Nat} (h : W.cell? p = some (.float .f32 r)) (n x : Nat) : ((W.drewN n).setCell p (.float .f32 x)).cell? p = some (.float .f32 (rdc ((W.drewN n).setCell p (.float .f32 x)) p)) :=
  rdc_of (World.cell?_setCell_same' (W.drewN n) p _ (by show (W.cell? p).isSome = true; rw [h]; rfl))
theorem cell_heap {V W : World} (h : V.heap = W.heap) (p : Addr) : V.cell? p = W.cell? p := by unfold World.cell?; rw [h]
theorem okPl_no {L : List (Option Nat)} {S : Option Nat} {j m : Nat} (hj : j < m) (h : fcoef (fpr L S j) = false) : okPl L S m = false := allU_no (f := fun j => fcoef (fpr L S j)) hj h
theorem okPl_next {L : List (Option Nat)} {S : Option Nat} {t : Nat} (h : ∀ j, j < t → fcoef (fpr L S j) = true) (h' : fcoef (fpr L S t) = true) : ∀ j, j < t + 1 → fcoef (fpr L S j) = true := by
  intro j hj
  by_cases hjt : j = t
  · subst hjt; exact h'
  · exact h j (by omega)

/-- What goes up and down, in two rows of the call's own, which are none of the row v. -/
def PlS (w : World) (base : Nat) (u d v : Value) (m : Nat) (U D : Nat → Option Nat) : Prop := ∃ (g1 o1 g2 k1 k2 : Nat) (cs1 cs2 : Array Value), u = .slice (some ⟨g1, o1, none⟩) m k1 ∧ d = .slice (some ⟨g2, 0, none⟩) m k2 ∧ m ≤ k1 ∧ m ≤ k2 ∧ g1 ≠ g2 ∧ base ≤ g1 ∧ base ≤ g2 ∧ v.ownBlock ≠ some g1 ∧ v.ownBlock ≠ some g2 ∧
  w.heap[g1]? = some (.cells cs1 29 (0, 0)) ∧ w.heap[g2]? = some (.cells cs2 29 (0, 0)) ∧ o1 + m ≤ cs1.size ∧ m ≤ cs2.size ∧ RowO cs1 o1 m U ∧ RowO cs2 0 m D

end Go.Proofs.Ythgmkipifolbfab
