/- The numbers of chapter 3 as functions of floats up to which NaN: lengths, sums, products, convolutions, lists that grow by a rule. No condition. -/
import Derived.Test.YtfmhdnhaaohdjaaTl
namespace Go.Proofs.Ytfmhdnhaaohdjaa
open Go.RowKit Ieee

/-- A trace's length. -/
def tlen (n : Nat) : Bool := decide (1 ≤ n) && decide (n ≤ 128)
theorem tlen_lo {n : Nat} (h : n < 1) : tlen n = false := by unfold tlen; rw [decide_eq_false (by omega : ¬ 1 ≤ n)]; rfl
theorem tlen_hi {n : Nat} (h : 128 < n) : tlen n = false := by unfold tlen; rw [decide_eq_false (by omega : ¬ n ≤ 128)]; simp
theorem tlen_yes {n : Nat} (h1 : 1 ≤ n) (h2 : n ≤ 128) : tlen n = true := by unfold tlen; rw [decide_eq_true h1, decide_eq_true h2]; rfl
theorem tlen_of {n : Nat} (h : tlen n = true) : 1 ≤ n ∧ n ≤ 128 := by
  unfold tlen at h; simp only [Bool.and_eq_true, decide_eq_true_eq] at h; exact h
theorem tlen_not {n : Nat} (h : tlen n = false) : n < 1 ∨ 128 < n := by
  rcases Nat.lt_or_ge n 1 with h1 | h1
  · exact .inl h1
  rcases Nat.lt_or_ge 128 n with h2 | h2
  · exact .inr h2
  · rw [tlen_yes h1 h2] at h; cases h
/-- Two numbers are equal, as a Bool of one's own. -/
def same2 (n m : Nat) : Bool := decide (n = m)
theorem same2_yes {n m : Nat} (h : n = m) : same2 n m = true := decide_eq_true h
theorem same2_no {n m : Nat} (h : n ≠ m) : same2 n m = false := decide_eq_false h
theorem same2_of {n m : Nat} (h : same2 n m = true) : n = m := of_decide_eq_true h
theorem same2_not {n m : Nat} (h : same2 n m = false) : n ≠ m := of_decide_eq_false h
/-- An Int from lo to hi, as a Bool of one's own. -/
def inB (x lo hi : Int) : Bool := decide (lo ≤ x) && decide (x ≤ hi)
theorem inB_lo {x lo hi : Int} (h : x < lo) : inB x lo hi = false := by unfold inB; rw [decide_eq_false (by omega : ¬ lo ≤ x)]; rfl
theorem inB_hi {x lo hi : Int} (h : hi < x) : inB x lo hi = false := by unfold inB; rw [decide_eq_false (by omega : ¬ x ≤ hi)]; simp
theorem inB_yes {x lo hi : Int} (h1 : lo ≤ x) (h2 : x ≤ hi) : inB x lo hi = true := by unfold inB; rw [decide_eq_true h1, decide_eq_true h2]; rfl
theorem inB_of {x lo hi : Int} (h : inB x lo hi = true) : lo ≤ x ∧ x ≤ hi := by
  unfold inB at h; simp only [Bool.and_eq_true, decide_eq_true_eq] at h; exact h
theorem inB_not {x lo hi : Int} (h : inB x lo hi = false) : x < lo ∨ hi < x := by
  rcases Int.lt_or_le x lo with h1 | h1
  · exact .inl h1
  rcases Int.lt_or_le hi x with h2 | h2
  · exact .inr h2
  · rw [inB_yes h1 h2] at h; cases h

def fadd2 (L M : List (Option Nat)) (j : Nat) : Option Nat := fop .add .f32 (L.getD j none) (M.getD j none)
def fsub2 (L M : List (Option Nat)) (j : Nat) : Option Nat := fop .sub .f32 (L.getD j none) (M.getD j none)
def fscale (L : List (Option Nat)) (P : Option Nat) (j : Nat) : Option Nat := fop .mul .f32 (L.getD j none) P
def fpow (P : Option Nat) : Nat → Option Nat
  | 0 => fu
  | j + 1 => fop .mul .f32 (fpow P j) P
def fkeep (L : List (Option Nat)) (P : Option Nat) (j : Nat) : Option Nat := fop .mul .f32 (L.getD j none) (fpow P j)
def fshift (L : List (Option Nat)) (i : Int) (j : Nat) : Option Nat := if 0 ≤ (j : Int) - i ∧ (j : Int) - i < L.length then L.getD ((j : Int) - i).toNat none else fz
def fmirror (L : List (Option Nat)) (j : Nat) : Option Nat := L.getD (L.length - 1 - j) none
def fpulse (at_ : Nat) (P : Option Nat) (j : Nat) : Option Nat := if j = at_ then P else fz
/-- The sum of the squares of the first numbers. -/
def fsq (L : List (Option Nat)) : Nat → Option Nat
  | 0 => fz
  | j + 1 => fop .add .f32 (fsq L j) (fop .mul .f32 (L.getD j none) (L.getD j none))
/-- Whether the number i of one list and the number k - i of another are both there. -/
def meet (k : Int) (m i : Nat) : Bool := decide ((i : Int) ≤ k) && decide (k - i < m)
theorem meet_yes {k : Int} {m i : Nat} (h1 : (i : Int) ≤ k) (h2 : k - i < m) : meet k m i = true := by unfold meet; rw [decide_eq_true h1, decide_eq_true h2]; rfl
theorem meet_no {k : Int} {m i : Nat} (h : k < i ∨ m ≤ k - i) : meet k m i = false := by
  unfold meet
  rcases h with h | h
  · rw [decide_eq_false (by omega : ¬ (i : Int) ≤ k)]; rfl
  · rw [decide_eq_false (by omega : ¬ k - i < (m : Int))]; simp
theorem meet_of {k : Int} {m i : Nat} (h : meet k m i = true) : (i : Int) ≤ k ∧ k - i < m := by
  unfold meet at h; simp only [Bool.and_eq_true, decide_eq_true_eq] at h; exact h
/-- The number k of a convolution, of the first numbers of L. -/
def ffs (L M : List (Option Nat)) (k : Int) : Nat → Option Nat
  | 0 => fz
  | i + 1 => if meet k M.length i then fop .add .f32 (ffs L M k i) (fop .mul .f32 (L.getD i none) (M.getD (k - i).toNat none)) else ffs L M k i
theorem ffs_yes {L M : List (Option Nat)} {k : Int} {i : Nat} (h : meet k M.length i = true) : ffs L M k (i + 1) = fop .add .f32 (ffs L M k i) (fop .mul .f32 (L.getD i none) (M.getD (k - i).toNat none)) := by
  rw [ffs, if_pos h]
theorem ffs_no {L M : List (Option Nat)} {k : Int} {i : Nat} (h : meet k M.length i = false) : ffs L M k (i + 1) = ffs L M k i := by
  rw [ffs, if_neg (by rw [h]; decide)]
theorem ffs_zero {L M : List (Option Nat)} {k : Int} : ∀ {i : Nat}, (∀ j, j < i → meet k M.length j = false) → ffs L M k i = fz
  | 0, _ => rfl
  | i + 1, h => by rw [ffs_no (h i (Nat.lt_succ_self i))]; exact ffs_zero fun j hj => h j (by omega)
theorem ffs_stop {L M : List (Option Nat)} {k : Int} {i : Nat} : ∀ {n : Nat}, i ≤ n → (∀ j, i ≤ j → j < n → meet k M.length j = false) → ffs L M k n = ffs L M k i
  | 0, h, _ => by rw [show i = 0 by omega]
  | n + 1, h, hm => by
    rcases Nat.lt_or_ge n i with h1 | h1
    · rw [show i = n + 1 by omega]
    · rw [ffs_no (hm n h1 (Nat.lt_succ_self n))]; exact ffs_stop h1 fun j h2 h3 => hm j h2 (by omega)
def ffold (L M : List (Option Nat)) (k : Nat) : Option Nat := ffs L M k L.length

/-- A list that grows by a rule of what is there. -/
def gl (f : List (Option Nat) → Option Nat) : Nat → List (Option Nat)
  | 0 => []
  | k + 1 => gl f k ++ [f (gl f k)]
theorem gl_len (f : List (Option Nat) → Option Nat) : ∀ k, (gl f k).length = k
  | 0 => rfl
  | k + 1 => by rw [gl, List.length_append, gl_len f k]; rfl
def glF (f : List (Option Nat) → Option Nat) (k : Nat) : Option Nat := f (gl f k)
theorem gl_lst (f : List (Option Nat) → Option Nat) : ∀ k, lst (glF f) k = gl f k
  | 0 => rfl
  | k + 1 => by
    unfold lst at *
    rw [List.range_succ, List.map_append, show (List.range k).map (glF f) = gl f k from gl_lst f k]; rfl
/-- What the surface has added, and taken away. -/
def faddS (L : List (Option Nat)) (S : Option Nat) (X : List (Option Nat)) : Option Nat := fop .sub .f32 (L.getD X.length none) (fop .mul .f32 S (ffs L X ((X.length : Int) - 1) X.length))
def fdropS (L : List (Option Nat)) (S : Option Nat) (X : List (Option Nat)) : Option Nat := fop .add .f32 (L.getD X.length none) (fop .mul .f32 S (ffs X L ((X.length : Int) - 1) X.length))
theorem ffs_past {L X : List (Option Nat)} {k n : Nat} (hn : k ≤ n) : ffs L X ((k : Int) - 1) n = ffs L X ((k : Int) - 1) k :=
  ffs_stop hn fun j h1 _ => meet_no (.inl (by omega))
end Go.Proofs.Ytfmhdnhaaohdjaa
