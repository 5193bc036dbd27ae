/- Floats compared: the order of two words by what they stand for, whole. No condition. -/
import Derived.Test.YtfmhdnhaaohdjaaFl
namespace Go.Proofs.Ytfmhdnhaaohdjaa
open Ieee
theorem datum_order_self (d : Datum) : d.order d = if d.isNaN then none else some .eq := by
  cases d with
  | nan => rfl
  | infinity s => cases s <;> rfl
  | number s m e => simp [Datum.order, Datum.isNaN]

theorem order_self (k : FloatKind) (b : Nat) : (k.format.order b b == some .eq) = (fl k b).isSome := by
  unfold Format.order fl FloatKind.decode
  rw [datum_order_self]
  split <;> rfl
theorem order_self_ne (k : FloatKind) (b : Nat) : (k.format.order b b != some .eq) = (fl k b).isNone := by
  have := order_self k b
  rw [bne, this]; cases fl k b <;> rfl

/-- The order of two floats up to which NaN. -/
def ford (k : FloatKind) (x y : Option Nat) : Option Ordering := x.bind fun a => y.bind fun b => k.format.order a b

theorem order_fl (k : FloatKind) (a b : Nat) : k.format.order a b = ford k (fl k a) (fl k b) := by
  unfold ford fl Format.order
  by_cases ha : (k.decode a).isNaN = true
  · rw [if_pos ha]
    unfold FloatKind.decode at ha
    cases hx : k.format.read a <;> rw [hx] at ha <;> simp [Datum.isNaN] at ha
    rfl
  · rw [if_neg ha]
    by_cases hb : (k.decode b).isNaN = true
    · rw [if_pos hb]
      unfold FloatKind.decode at hb
      cases hy : k.format.read b <;> rw [hy] at hb <;> simp [Datum.isNaN] at hb
      cases k.format.read a <;> rfl
    · rw [if_neg hb]; rfl

/-- A signed number of digits at a place, whole. -/
def sv (s : Bool) (m e : Nat) : Int := if s then -((m * 2 ^ e : Nat) : Int) else ((m * 2 ^ e : Nat) : Int)

theorem signed_sv (s : Bool) (m e : Nat) : signed s m e = sv s m e := by
  unfold signed sv; simp only [Nat.shiftLeft_eq]

theorem sv_add (s : Bool) (m i j : Nat) : sv s m (i + j) = sv s m i * (2 ^ j : Nat) := by
  unfold sv
  rw [Nat.pow_add, ← Nat.mul_assoc]
  split <;> simp [Int.natCast_mul, Int.neg_mul]

theorem cmp_scale (a b : Int) (c : Nat) (hc : 0 < c) : compare (a * c) (b * c) = compare a b := by
  have hc' : (0 : Int) < (c : Int) := by omega
  have key : ∀ x y : Int, compare x y = if x < y then .lt else if x = y then .eq else .gt := fun x y => rfl
  rw [key, key]
  rcases Int.lt_trichotomy a b with h | h | h
  · have h2 : a * c < b * c := Int.mul_lt_mul_of_pos_right h hc'
    rw [if_pos h, if_pos h2]
  · subst h; simp
  · have h2 : b * c < a * c := Int.mul_lt_mul_of_pos_right h hc'
    rw [if_neg (by omega), if_neg (by omega), if_neg (by omega), if_neg (by omega)]

theorem order_number (L : Int) (s : Bool) (m i : Nat) (t : Bool) (n j : Nat) :
    (Datum.number s m (L + (i : Int))).order (.number t n (L + (j : Int))) = some (compare (sv s m i) (sv t n j)) := by
  simp only [Datum.order, signed_sv]
  congr 1
  rcases Nat.le_total i j with h | h
  · rw [show (L + (i : Int) - min (L + (i : Int)) (L + (j : Int))).toNat = 0 by omega, show (L + (j : Int) - min (L + (i : Int)) (L + (j : Int))).toNat = j - i by omega]
    rw [← cmp_scale _ _ (2 ^ i) (Nat.two_pow_pos _), ← sv_add, ← sv_add, Nat.zero_add, Nat.sub_add_cancel h]
  · rw [show (L + (i : Int) - min (L + (i : Int)) (L + (j : Int))).toNat = i - j by omega, show (L + (j : Int) - min (L + (i : Int)) (L + (j : Int))).toNat = 0 by omega]
    rw [← cmp_scale _ _ (2 ^ j) (Nat.two_pow_pos _), ← sv_add, ← sv_add, Nat.zero_add, Nat.sub_add_cancel h]

/-- A word that is finite: its sign, digits and place. -/
structure Fin_ (k : FloatKind) (b : Nat) (s : Bool) (m e : Nat) : Prop where
  read : k.format.read b = .number s m (k.format.leastPlace + (e : Int))
  lt : m < 2 * k.format.binade
  low : e = 0 ∨ k.format.binade ≤ m
  top : e * k.format.binade + m < k.format.infRung
  rung : b % k.format.signWeight = e * k.format.binade + m
  sign : s = (b / k.format.signWeight % 2 == 1)

theorem binade_le_inf (k : FloatKind) : k.format.binade ≤ k.format.infRung := by cases k <;> decide +kernel

inductive Shape (k : FloatKind) (b : Nat) : Prop where
  | fin (s : Bool) (m e : Nat) (h : Fin_ k b s m e)
  | inf (s : Bool) (hr : k.format.read b = .infinity s) (hg : b % k.format.signWeight = k.format.infRung) (hs : s = (b / k.format.signWeight % 2 == 1))
  | nan (h : fl k b = none)

theorem shape (k : FloatKind) (b : Nat) : Shape k b := by
  rcases read_form k.format (binade_le_inf k) b with ⟨s, m, e, h1, h2, h3, h4, h5, h6⟩ | ⟨s, h1, h2, h3⟩ | h
  · exact .fin s m e ⟨h1, h2, h3, h4, h5, h6⟩
  · exact .inf s h1 h2 h3
  · exact .nan (by unfold fl FloatKind.decode; rw [if_pos h])

theorem Fin_.fl {k : FloatKind} {b : Nat} {s : Bool} {m e : Nat} (h : Fin_ k b s m e) : fl k b = some b := by
  unfold Ytfmhdnhaaohdjaa.fl FloatKind.decode; rw [h.read]; rfl
theorem fl_inf {k : FloatKind} {b : Nat} {s : Bool} (h : k.format.read b = .infinity s) : fl k b = some b := by
  unfold fl FloatKind.decode; rw [h]; rfl

theorem Fin_.order {k : FloatKind} {a b : Nat} {s t : Bool} {m e n j : Nat} (h : Fin_ k a s m e) (h' : Fin_ k b t n j) : k.format.order a b = some (compare (sv s m e) (sv t n j)) := by
  unfold Format.order; rw [h.read, h'.read, order_number]

/-- Finite, of a float up to which NaN. -/
def ffin (k : FloatKind) (x : Option Nat) : Bool := match x with | none => false | some b => !(k.decode b).isInfinity

theorem Fin_.ffin {k : FloatKind} {b : Nat} {s : Bool} {m e : Nat} (h : Fin_ k b s m e) : ffin k (Ytfmhdnhaaohdjaa.fl k b) = true := by
  rw [h.fl]; unfold Ytfmhdnhaaohdjaa.ffin FloatKind.decode; simp only; rw [h.read]; rfl

/-- What is taken from itself: +0 where it is finite, else no number. -/
theorem sub_self (k : FloatKind) (x : Nat) : fop .sub k (fl k x) (fl k x) = if ffin k (fl k x) then some 0 else none := by
  rcases shape k x with ⟨s, m, e, h⟩ | ⟨s, hr, _, _⟩ | h
  · rw [h.ffin, h.fl]
    show floatBits .sub k x x = some 0
    unfold floatBits Format.sub
    simp only [h.read, Datum.opposite, Datum.sum]
    have ht : signed s m (k.format.leastPlace + ↑e - min (k.format.leastPlace + ↑e) (k.format.leastPlace + ↑e)).toNat + signed (!s) m (k.format.leastPlace + ↑e - min (k.format.leastPlace + ↑e) (k.format.leastPlace + ↑e)).toNat = 0 := by
      unfold signed; cases s <;> simp <;> omega
    rw [ht]
    cases s <;> simp [Format.write, Format.nearest, Format.word]
  · rw [fl_inf hr]
    show floatBits .sub k x x = _
    have : ffin k (some x) = false := by unfold ffin FloatKind.decode; simp only; rw [hr]; rfl
    rw [this]
    unfold floatBits Format.sub
    simp only [hr, Datum.opposite, Datum.sum]
    cases s <;> simp
  · rw [h]; rfl
end Go.Proofs.Ytfmhdnhaaohdjaa
