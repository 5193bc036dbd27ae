/- Slices of floats that are read: the floats up to which NaN, by index. No condition. -/
import Derived.Test.YtfmhdnhaaohdjaaConv
namespace Go.Proofs.Ytfmhdnhaaohdjaa
open Go.RowKit

/-- The slice of address A and length n holds floats that stand for L, and lies below block B. -/
structure RdF (w : World) (B : Nat) (A : Option Addr) (n : Nat) (L : List (Option Nat)) : Prop where
  len : L.length = n
  at_ : ∀ k, k < n → ∃ b off, A = some ⟨b, off, none⟩ ∧ b < B ∧ ∀ j, j < n → ∃ r, w.cell? ⟨b, off + j, none⟩ = some (.float .f32 r) ∧ Fl .f32 r (L.getD j none)

theorem RdF.cell {w : World} {B n k : Nat} {A : Option Addr} {L : List (Option Nat)} (h : RdF w B A n L) (hk : k < n) :
    ∃ b off r, A = some ⟨b, off, none⟩ ∧ b < B ∧ w.cell? ⟨b, off + k, none⟩ = some (.float .f32 r) ∧ Fl .f32 r (L.getD k none) := by
  obtain ⟨b, off, hA, hb, hj⟩ := h.at_ k hk
  obtain ⟨r, h1, h2⟩ := hj k hk
  exact ⟨b, off, r, hA, hb, h1, h2⟩

theorem RdF.keep {w w' : World} {B n : Nat} {A : Option Addr} {L : List (Option Nat)} (h : RdF w B A n L) (hk : ∀ p : Addr, p.block < B → w'.cell? p = w.cell? p) : RdF w' B A n L :=
  ⟨h.len, fun k hkn => by
    obtain ⟨b, off, hA, hb, hj⟩ := h.at_ k hkn
    refine ⟨b, off, hA, hb, fun j hjn => ?_⟩
    obtain ⟨r, h1, h2⟩ := hj j hjn
    exact ⟨r, (hk _ hb).trans h1, h2⟩⟩
theorem RdF.below {w w' : World} {B n : Nat} {A : Option Addr} {L : List (Option Nat)} (h : RdF w B A n L) (hb : Below B w w') : RdF w' B A n L := h.keep fun _ hp => hb.cell hp
theorem RdF.drewN {w : World} {B n : Nat} {A : Option Addr} {L : List (Option Nat)} (h : RdF w B A n L) (m : Nat) : RdF (w.drewN m) B A n L := h.keep fun _ _ => rfl
theorem RdF.more {w : World} {B B' n : Nat} {A : Option Addr} {L : List (Option Nat)} (h : RdF w B A n L) (hB : B ≤ B') : RdF w B' A n L :=
  ⟨h.len, fun k hkn => by
    obtain ⟨b, off, hA, hb, hj⟩ := h.at_ k hkn
    exact ⟨b, off, hA, by omega, hj⟩⟩

theorem take_succ_getD {α : Type} (L : List α) (d : α) (k : Nat) (h : k < L.length) : L.take (k + 1) = L.take k ++ [L.getD k d] := by
  rw [List.take_succ_eq_append_getElem h]
  simp [List.getD, h]

/-- The sum from left to right, from +0 on. -/
def fsum (k : FloatKind) (L : List (Option Nat)) : Option Nat := L.foldl (fop .add k) (some 0)
theorem fsum_succ (kd : FloatKind) (L : List (Option Nat)) (k : Nat) (h : k < L.length) : fsum kd (L.take (k + 1)) = fop .add kd (fsum kd (L.take k)) (L.getD k none) := by
  rw [take_succ_getD L none k h, fsum, List.foldl_append]; rfl

theorem Dr.drewN {w w' : World} (h : Dr w w') (n : Nat) : Dr w (w'.drewN n) := by
  obtain ⟨m, rfl⟩ := h
  exact ⟨m + n, by rw [World.drewN_drewN]⟩
theorem fl32_zero : fl .f32 0 = some 0 := by decide +kernel
end Go.Proofs.Ytfmhdnhaaohdjaa
