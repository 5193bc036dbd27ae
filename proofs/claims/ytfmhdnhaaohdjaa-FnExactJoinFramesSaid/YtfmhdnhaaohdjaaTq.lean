/- The numbers of layers of one sample, of noise and of wavelets, as functions of floats up to which NaN. No condition. -/
import Derived.Test.YtfmhdnhaaohdjaaTz
namespace Go.Proofs.Ytfmhdnhaaohdjaa
open Go.RowKit Ieee

def fco2 (L : List (Option Nat)) (j : Nat) : Option Nat := fop .quo .f32 (fop .sub .f32 (L.getD (j + 1) none) (L.getD j none)) (fop .add .f32 (L.getD j none) (L.getD (j + 1) none))
/-- Hardnesses below each other. -/
def fhd (P : Option Nat) (L : List (Option Nat)) : Nat → Option Nat
  | 0 => P
  | k + 1 => fop .quo .f32 (fop .mul .f32 (fhd P L k) (fop .add .f32 fu (L.getD k none))) (fop .sub .f32 fu (L.getD k none))
/-- What goes on down. -/
def ftr (L : List (Option Nat)) : Nat → Option Nat
  | 0 => fu
  | k + 1 => fop .mul .f32 (ftr L k) (fop .sub .f32 fu (fop .mul .f32 (L.getD k none) (L.getD k none)))
def fprim (L : List (Option Nat)) (j : Nat) : Option Nat := if j < L.length then fop .mul .f32 (L.getD j none) (ftr L j) else fz
def fint (i : Int) : Option Nat := fl .f32 (floatOfInt .f32 i)
theorem fl_fint (i : Int) : Fl .f32 (floatOfInt .f32 i) (fint i) := ⟨rfl, FloatKind.f32.format.write_lt (.number (i < 0) i.natAbs 0)⟩
def fwu (i : Int) (j : Nat) : Option Nat := fop .quo .f32 (fint ((j : Int) - i)) (fint (i + 1))
def fww (i : Int) (j : Nat) : Option Nat := fop .mul .f32 (fwu i j) (fwu i j)
def fwv (i : Int) (j : Nat) : Option Nat := fop .sub .f32 fu (fww i j)
def fwave (i : Int) (P : Option Nat) (j : Nat) : Option Nat := fop .mul .f32 (fop .mul .f32 (fwv i j) (fwv i j)) (fop .sub .f32 fu (fop .mul .f32 P (fww i j)))
/-- Seeds. -/
def nseed (s : Int) : Nat → Int
  | 0 => s
  | k + 1 => (1103515245 * nseed s k + 12345) % 2147483648
theorem nseed_in {s : Int} (h0 : 0 ≤ s) (h1 : s ≤ 2147483647) : ∀ k, 0 ≤ nseed s k ∧ nseed s k ≤ 2147483647
  | 0 => ⟨h0, h1⟩
  | k + 1 => by
    have := nseed_in h0 h1 k
    show 0 ≤ (1103515245 * nseed s k + 12345) % 2147483648 ∧ (1103515245 * nseed s k + 12345) % 2147483648 ≤ 2147483647
    omega
def f16384 : Option Nat := fl .f32 1182793728
theorem fl_16384 : Fl .f32 1182793728 f16384 := Fl.of32 (by decide)
def fnoise (s : Int) (P : Option Nat) (k : Nat) : Option Nat := fop .mul .f32 P (fop .quo .f32 (fint (nseed s (k + 1) / 65536 - 16384)) f16384)
end Go.Proofs.Ytfmhdnhaaohdjaa
