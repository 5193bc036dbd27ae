/- The numbers of chapter 5 as functions of floats up to which NaN: numbers of a list or +0, taking +0 away, the opposite of a product. No condition but the bounds. -/
import Derived.Test.YthgooahifbdaaaaTm
import Derived.Test.YthgooahifbdaaaaPk
import Derived.Test.YthgooahifbdaaaaTz
import Derived.Test.YthgooahifbdaaaaRd2
namespace Go.Proofs.Ythgooahifbdaaaa
open Go.RowKit Ieee

/-- A number of a list, or +0. -/
def fatI (L : List (Option Nat)) (i : Int) : Option Nat := if 0 ≤ i ∧ i < L.length then L.getD i.toNat none else fz
theorem fatI_in {L : List (Option Nat)} {i : Int} {d : Nat} (h : i = (d : Int)) (hd : d < L.length) : fatI L i = L.getD d none := by
  unfold fatI; rw [if_pos (by omega), h, Int.toNat_natCast]
theorem fatI_out {L : List (Option Nat)} {i : Int} (h : i < 0 ∨ (L.length : Int) ≤ i) : fatI L i = fz := by unfold fatI; rw [if_neg (by omega)]
/-- A quarter. -/
def fq4 : Option Nat := fl .f32 1048576000
theorem fl_fq4 : Fl .f32 1048576000 fq4 := Fl.of32 (by decide)
/-- One number of a smoother trace. -/
def fsm (L : List (Option Nat)) (k : Nat) : Option Nat := fop .mul .f32 fq4 (fop .add .f32 (fop .add .f32 (fop .add .f32 (fatI L ((k : Int) - 1)) (L.getD k none)) (L.getD k none)) (fatI L ((k : Int) + 1)))
def smR (L : List (Option Nat)) : Nat → List (Option Nat)
  | 0 => L
  | r + 1 => lst (fsm (smR L r)) L.length
theorem smR_len (L : List (Option Nat)) : ∀ r, (smR L r).length = L.length
  | 0 => rfl
  | _ + 1 => lst_len _ _
def fnotch (L : List (Option Nat)) (C : Option Nat) (k : Nat) : Option Nat := fop .add .f32 (fop .sub .f32 (L.getD k none) (fop .mul .f32 C (fatI L ((k : Int) - 1)))) (fatI L ((k : Int) - 2))
def fdiff (L : List (Option Nat)) (k : Nat) : Option Nat := fop .sub .f32 (L.getD k none) (fatI L ((k : Int) - 1))
def fintg (L : List (Option Nat)) (k : Nat) : Option Nat := fsum .f32 (L.take (k + 1))
def fwhite (L : List (Option Nat)) (W : Option Nat) (k : Nat) : Option Nat := if k = 0 then fop .mul .f32 (L.getD 0 none) (fop .add .f32 fu W) else L.getD k none
def fmute (L : List (Option Nat)) (i j : Int) (k : Nat) : Option Nat := if i ≤ (k : Int) ∧ (k : Int) < j then fz else L.getD k none

/-- Taking +0 away changes nothing. -/
theorem sub_fz {b : Nat} {X : Option Nat} (hX : Fl .f32 b X) : fop .sub .f32 X fz = X := by
  cases hXc : X with
  | none => rfl
  | some c =>
    subst hXc
    obtain rfl := (fl_some hX.eq).1
    have hlt : c < 4294967296 := hX.lt
    have hz : fz = some 0 := by decide +kernel
    rw [hz]
    have r0 : (FloatKind.f32.format.read 0).opposite = .number true 0 (-149) := by decide +kernel
    have e0 : fop .sub .f32 (some c) (some 0) = ((FloatKind.f32.format.read c).sum (FloatKind.f32.format.read 0).opposite).map FloatKind.f32.format.write := rfl
    rw [e0, r0]
    rcases shape .f32 c with ⟨s, m, e, h1⟩ | ⟨s, hr, hg, hs⟩ | h1
    · have hw := h1.word hlt
      have hl : FloatKind.f32.format.leastPlace = -149 := zleast
      rw [h1.read, hl]
      have hmin : min (-149 + (e : Int)) (-149) = -149 := by omega
      have ht : signed s m (-149 + (e : Int) - -149).toNat + signed true 0 (-149 - -149 : Int).toNat = (if s then -((m * 2 ^ e : Nat) : Int) else ((m * 2 ^ e : Nat) : Int)) := by
        rw [show (-149 + (e : Int) - -149).toNat = e by omega]
        unfold signed; cases s <;> simp [Nat.shiftLeft_eq]
      simp only [Datum.sum, hmin, Option.map_some, ht]
      obtain ⟨k1, k2, k3, k4⟩ := h1.e32
      have hneg : (if (if s then -((m * 2 ^ e : Nat) : Int) else ((m * 2 ^ e : Nat) : Int)) = 0 then s && true else decide ((if s then -((m * 2 ^ e : Nat) : Int) else ((m * 2 ^ e : Nat) : Int)) < 0)) = s := by
        cases s
        · simp only [Bool.false_eq_true, if_false]
          split
          · rfl
          · exact decide_eq_false (by omega)
        · simp only [if_true]
          split
          · rfl
          · exact decide_eq_true (by omega)
      have habs : (if s then -((m * 2 ^ e : Nat) : Int) else ((m * 2 ^ e : Nat) : Int)).natAbs = m * 2 ^ e := by
        cases s
        · simp only [Bool.false_eq_true, if_false]; exact Int.natAbs_natCast _
        · simp only [if_true]; rw [Int.natAbs_neg]; exact Int.natAbs_natCast _
      show some (FloatKind.f32.format.nearest _ _ (-149)) = some c
      rw [hneg, habs]
      by_cases hm : m = 0
      · subst hm
        obtain rfl : e = 0 := by rcases k3 with h | h <;> omega
        rw [hw]; simp [Format.nearest]
      · have hn : m * 2 ^ e ≠ 0 := Nat.mul_ne_zero hm (by have := Nat.two_pow_pos e; omega)
        have hlo : m.log2 < 24 := (Nat.log2_lt hm).2 k1
        rw [nearest_exact _ s (m * 2 ^ e) (-149) e m hn ?_ ?_ (Nat.le_of_lt h1.top)]
        · rw [← hw]
        · rw [log2_shift hm, hl, zfrac]
          rcases k3 with h | h
          · subst h; omega
          · have hhi : 23 ≤ m.log2 := (Nat.le_log2 hm).2 h
            omega
        · rw [hl, show (-149 - (-149 + (e : Int))).toNat = 0 by omega, show (-149 + (e : Int) - -149).toNat = e by omega, Nat.pow_zero, Nat.mul_one]
    · rw [hr]
      rw [sw32] at hg hs
      rw [inf32] at hg
      show some (FloatKind.f32.format.word s FloatKind.f32.format.infRung) = some c
      rw [inf32]
      have e3 : FloatKind.f32.format.signWeight = 2147483648 := sw32
      unfold Format.word
      rw [e3]
      congr 1
      cases s
      · have : ¬ c / 2147483648 % 2 = 1 := by intro h; rw [h] at hs; cases hs
        simp only [Bool.false_eq_true, if_false]; omega
      · have : c / 2147483648 % 2 = 1 := by simpa using hs.symm
        simp only [if_true]; omega
    · have := hX.eq; rw [h1] at this; cases this

theorem read_opp (s : Bool) {g : Nat} (hg : g < 2147483648) : FloatKind.f32.format.read (FloatKind.f32.format.word (!s) g) = (FloatKind.f32.format.read (FloatKind.f32.format.word s g)).opposite := by
  have h1 : ∀ t : Bool, FloatKind.f32.format.word t g / FloatKind.f32.format.signWeight % 2 = t.toNat ∧ FloatKind.f32.format.word t g % FloatKind.f32.format.signWeight = g := by
    intro t
    unfold Format.word
    rw [sw32]
    cases t
    · simp only [Bool.false_eq_true, if_false, Bool.toNat_false]; omega
    · simp only [if_true, Bool.toNat_true]; omega
  unfold Format.read
  simp only [(h1 _).1, (h1 _).2]
  split
  · cases s <;> rfl
  · split
    · cases s <;> rfl
    · split
      · cases s <;> rfl
      · cases s <;> rfl
theorem neg_word (s : Bool) {g : Nat} (hg : g < 2147483648) : neg32 (FloatKind.f32.format.word s g) = FloatKind.f32.format.word (!s) g := by
  unfold Format.word
  rw [sw32]
  cases s
  · simp only [Bool.false_eq_true, if_false, Bool.not_false, if_true]
    show g ^^^ 2 ^ 31 = _
    have e := xor_top hg
    have : (2147483648 + g) ^^^ 2147483648 ^^^ 2147483648 = g ^^^ 2147483648 := by rw [e]
    rw [Nat.xor_assoc, Nat.xor_self, Nat.xor_zero] at this
    exact this.symm
  · simp only [if_true, Bool.not_true, Bool.false_eq_true, if_false]
    exact xor_top hg
theorem word_of {b : Nat} (hb : b < 4294967296) : ∃ (s : Bool) (g : Nat), g < 2147483648 ∧ b = FloatKind.f32.format.word s g := by
  unfold Format.word
  rw [sw32]
  by_cases h : b < 2147483648
  · exact ⟨false, b, h, rfl⟩
  · exact ⟨true, b - 2147483648, by omega, by simp only [if_true]; omega⟩
theorem read_neg {b : Nat} (hb : b < 4294967296) : FloatKind.f32.format.read (neg32 b) = (FloatKind.f32.format.read b).opposite := by
  obtain ⟨s, g, hg, rfl⟩ := word_of hb
  rw [neg_word s hg, read_opp s hg]
theorem near_opp (s : Bool) (m : Nat) (p : Int) : ∃ g, g < 2147483648 ∧ FloatKind.f32.format.nearest s m p = FloatKind.f32.format.word s g ∧ FloatKind.f32.format.nearest (!s) m p = FloatKind.f32.format.word (!s) g := by
  unfold Format.nearest
  by_cases hm : m = 0
  · exact ⟨0, by omega, by rw [if_pos hm], by rw [if_pos hm]⟩
  · refine ⟨_, ?_, by rw [if_neg hm], by rw [if_neg hm]; rfl⟩
    have : FloatKind.f32.format.infRung = 2139095040 := inf32
    rw [this]
    omega
theorem write_opp {d : Datum} (hd : d.isNaN = false) : FloatKind.f32.format.read (FloatKind.f32.format.write d.opposite) = (FloatKind.f32.format.read (FloatKind.f32.format.write d)).opposite := by
  cases d with
  | nan => cases hd
  | infinity s => exact read_opp s (by rw [inf32]; omega)
  | number s m p =>
    obtain ⟨g, hg, e1, e2⟩ := near_opp s m p
    show FloatKind.f32.format.read (FloatKind.f32.format.nearest (!s) m p) = (FloatKind.f32.format.read (FloatKind.f32.format.nearest s m p)).opposite
    rw [e1, e2]
    exact read_opp s hg
theorem product_opp (x y : Datum) : x.opposite.product y = (x.product y).map Datum.opposite := by
  cases x <;> cases y <;> simp only [Datum.product, Datum.opposite] <;> (try split) <;> (try rfl) <;> simp [Datum.opposite]
/-- To add the opposite of a product is to take it away. -/
theorem add_opp {c : Nat} {A C X : Option Nat} (hC : Fl .f32 c C) : fop .add .f32 A (fop .mul .f32 (fneg32 C) X) = fop .sub .f32 A (fop .mul .f32 C X) := by
  cases A with
  | none => rfl
  | some a =>
  cases hCc : C with
  | none => rfl
  | some c' =>
    subst hCc
    obtain rfl := (fl_some hC.eq).1
    cases X with
    | none => rfl
    | some x =>
      have hlt : c' < 4294967296 := hC.lt
      have e1 : fop .mul .f32 (fneg32 (some c')) (some x) = ((FloatKind.f32.format.read (neg32 c')).product (FloatKind.f32.format.read x)).map FloatKind.f32.format.write := rfl
      have e2 : fop .mul .f32 (some c') (some x) = ((FloatKind.f32.format.read c').product (FloatKind.f32.format.read x)).map FloatKind.f32.format.write := rfl
      rw [e1, e2, read_neg hlt, product_opp]
      cases hp : (FloatKind.f32.format.read c').product (FloatKind.f32.format.read x) with
      | none => rfl
      | some d =>
        have hd := product_num hp
        show ((FloatKind.f32.format.read a).sum (FloatKind.f32.format.read (FloatKind.f32.format.write d.opposite))).map _ = ((FloatKind.f32.format.read a).sum (FloatKind.f32.format.read (FloatKind.f32.format.write d)).opposite).map _
        rw [write_opp hd]
/-- Whether a list is a filter. -/
theorem elen_int (n : Nat) : inB (n : Int) 1 24 = elen n := by
  cases h : elen n
  · rcases Nat.lt_or_ge n 1 with h1 | h1
    · exact inB_lo (by omega)
    rcases Nat.lt_or_ge 24 n with h2 | h2
    · exact inB_hi (by omega)
    · rw [elen_yes h1 h2] at h; cases h
  · obtain ⟨h1, h2⟩ := elen_of h
    exact inB_yes (by omega) (by omega)
theorem elen_not {n : Nat} (h : elen n = false) : n < 1 ∨ 24 < n := by
  rcases Nat.lt_or_ge n 1 with h1 | h1
  · exact .inl h1
  rcases Nat.lt_or_ge 24 n with h2 | h2
  · exact .inr h2
  · rw [elen_yes h1 h2] at h; cases h
/-- A filter behind a step with a reflection. -/
def fnextN (p : List (Option Nat)) (C : Option Nat) (i : Nat) : Option Nat := fop .sub .f32 ((p ++ [fz]).getD i none) (fop .mul .f32 C ((p ++ [fz]).getD (p.length - i) none))
def fnext (p : List (Option Nat)) (C : Option Nat) : List (Option Nat) := lst (fnextN p C) (p.length + 1)
def fofr : List (Option Nat) → List (Option Nat) → List (Option Nat)
  | p, [] => p
  | p, c :: k => fofr (fnext p c) k
end Go.Proofs.Ythgooahifbdaaaa
