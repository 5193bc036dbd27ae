/- The numbers of chapter 2 as functions of floats up to which NaN: valid grounds, sums, rays, coefficients. No condition. -/
import Derived.Test.YtkoiimjpalhgbabHalf
import Derived.Test.YtkoiimjpalhgbabGr
import Derived.Test.YtkoiimjpalhgbabSq
namespace Go.Proofs.Ytkoiimjpalhgbab
open Ieee

def fz : Option Nat := fl .f32 0
def fu : Option Nat := fl .f32 1065353216
def gt0 (x : Option Nat) : Bool := ford .f32 x fz == some .gt
def ge0 (x : Option Nat) : Bool := ford .f32 x fz == some .gt || ford .f32 x fz == some .eq
def lt0 (x : Option Nat) : Bool := ford .f32 x fz == some .lt
def lt1 (x : Option Nat) : Bool := ford .f32 x fu == some .lt
def flt32 (x y : Option Nat) : Bool := ford .f32 x y == some .lt
def fgt32 (x y : Option Nat) : Bool := ford .f32 x y == some .gt
def fabove (x : Option Nat) : Bool := ffin .f32 x && gt0 x
def fway (x : Option Nat) : Bool := ffin .f32 x && ge0 x
def fly (y : Ly) : Bool := fabove y.t && fabove y.s && fabove y.d && (ge0 y.l && lt1 y.l)
def fvalid (L : List Ly) (S D : Option Nat) : Bool := decide (1 ≤ L.length) && decide (L.length ≤ 12) && L.all fly && fabove S && fabove D

theorem Fl.ogt0 {r : Nat} {X : Option Nat} (h : Fl .f32 r X) : (FloatKind.f32.format.order r 0 == some .gt) = Ytkoiimjpalhgbab.gt0 X := by
  unfold Ytkoiimjpalhgbab.gt0 fz; rw [order_fl, h.eq]
theorem Fl.oge0 {r : Nat} {X : Option Nat} (h : Fl .f32 r X) : (FloatKind.f32.format.order r 0 == some .gt || FloatKind.f32.format.order r 0 == some .eq) = Ytkoiimjpalhgbab.ge0 X := by
  unfold Ytkoiimjpalhgbab.ge0 fz; rw [order_fl, h.eq]
theorem Fl.olt0 {r : Nat} {X : Option Nat} (h : Fl .f32 r X) : (FloatKind.f32.format.order r 0 == some .lt) = Ytkoiimjpalhgbab.lt0 X := by
  unfold Ytkoiimjpalhgbab.lt0 fz; rw [order_fl, h.eq]
theorem Fl.olt1 {r : Nat} {X : Option Nat} (h : Fl .f32 r X) : (FloatKind.f32.format.order r 1065353216 == some .lt) = Ytkoiimjpalhgbab.lt1 X := by
  unfold Ytkoiimjpalhgbab.lt1 fu; rw [order_fl, h.eq]
theorem Fl.olt {r q : Nat} {X Y : Option Nat} (h : Fl .f32 r X) (h' : Fl .f32 q Y) : (FloatKind.f32.format.order r q == some .lt) = flt32 X Y := by
  unfold flt32; rw [order_fl, h.eq, h'.eq]
theorem Fl.ogt {r q : Nat} {X Y : Option Nat} (h : Fl .f32 r X) (h' : Fl .f32 q Y) : (FloatKind.f32.format.order r q == some .gt) = fgt32 X Y := by
  unfold fgt32; rw [order_fl, h.eq, h'.eq]

theorem fl_fz : Fl .f32 0 fz := Fl.of32 (by decide)
theorem fl_fu : Fl .f32 1065353216 fu := Fl.of32 (by decide)

theorem all_take_succ (L : List Ly) (k : Nat) (h : k < L.length) : (L.take (k + 1)).all fly = ((L.take k).all fly && fly (L.getD k default)) := by
  rw [take_succ_getD L default k h, List.all_append]; simp
theorem all_false {L : List Ly} {k : Nat} (h : k < L.length) (hf : fly (L.getD k default) = false) : L.all fly = false := by
  rw [Bool.eq_false_iff]
  intro ha
  rw [List.all_eq_true] at ha
  have := ha (L.getD k default) (by simp [List.getD, h])
  rw [hf] at this; cases this

/-- The speed of the layer n, or of what is below. -/
def fspeed (L : List Ly) (S : Option Nat) (n : Nat) : Option Nat := if n = L.length then S else (L.getD n default).s
def fdens (L : List Ly) (D : Option Nat) (n : Nat) : Option Nat := if n = L.length then D else (L.getD n default).d
def fhard (L : List Ly) (S D : Option Nat) (n : Nat) : Option Nat := fop .mul .f32 (fdens L D n) (fspeed L S n)

/-- A number that is returned: 0 and false if it is not finite. -/
def numX (x : Option Nat) : Option Nat := if ffin .f32 x then x else fz

/-- The root as chapter 1 takes it. -/
def froot (x : Option Nat) : Option Nat := fconv .f64 .f32 (fsqrt (fconv .f32 .f64 x))

/-- The cosine of a sine. -/
def fcos (s : Option Nat) : Option Nat := froot (fop .sub .f32 fu (fop .mul .f32 s s))
end Go.Proofs.Ytkoiimjpalhgbab
