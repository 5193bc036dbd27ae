/- Floats up to which NaN they are: the operations of the model as functions of 'Option Nat' ('none': a NaN), and the walk's laws for them. No condition. -/
import Derived.WalkKit
import Derived.WalkSpells
import Derived.WalkLawsBesides
import Derived.Laws.FloatArith
import Derived.Deep.Draws
import Derived.Lib.Hide
namespace Go.Proofs.Ytfmhdnhaaohdjaa
open Ieee
/-- A float's bits up to which NaN it is: 'none' of every NaN. -/
def fl (k : FloatKind) (b : Nat) : Option Nat := if (k.decode b).isNaN then none else some b

theorem fl_some {k : FloatKind} {b c : Nat} (h : fl k b = some c) : c = b ∧ (k.decode b).isNaN = false := by
  unfold fl at h; split at h
  · cases h
  · rename_i hn; cases h; exact ⟨rfl, by simpa using hn⟩

theorem read_word (f : Format) (neg : Bool) (rung : Nat) (h : rung ≤ f.infRung) : (f.read (f.word neg rung)).isNaN = false := by
  have hi := f.infRung_lt
  have hw : f.word neg rung % f.signWeight = rung := by
    unfold Format.word; split
    · rw [Nat.add_mod_left]; exact Nat.mod_eq_of_lt (by omega)
    · exact Nat.mod_eq_of_lt (by omega)
  unfold Format.read
  simp only [hw]
  split
  · rfl
  · split
    · rfl
    · split
      · rfl
      · omega

theorem write_num (f : Format) (d : Datum) (h : d.isNaN = false) : (f.read (f.write d)).isNaN = false := by
  cases d with
  | nan => simp [Datum.isNaN] at h
  | infinity s => exact read_word f s _ (Nat.le_refl _)
  | number s m e =>
    simp only [Format.write, Format.nearest]
    split
    · exact read_word f s 0 (Nat.zero_le _)
    · exact read_word f s _ (Nat.min_le_right _ _)

theorem sum_num {x y d : Datum} (h : x.sum y = some d) : d.isNaN = false := by
  cases x <;> cases y <;> simp [Datum.sum] at h <;> first | (subst h; rfl) | (obtain ⟨_, rfl⟩ := h; rfl)
theorem product_num {x y d : Datum} (h : x.product y = some d) : d.isNaN = false := by
  cases x <;> cases y <;> simp [Datum.product] at h <;> first | (subst h; rfl) | (obtain ⟨_, rfl⟩ := h; rfl)
theorem quotient_num {n : Nat} {x y d : Datum} (h : x.quotient n y = some d) : d.isNaN = false := by
  cases x <;> cases y <;> simp only [Datum.quotient] at h
  case number.number =>
    split at h
    · split at h
      · cases h
      · cases h; rfl
    · cases h; rfl
  all_goals first | (cases h; done) | (cases h; rfl)

theorem map_write_num (f : Format) {d : Option Datum} {r : Nat} (hd : ∀ x, d = some x → x.isNaN = false) (h : d.map f.write = some r) : (f.read r).isNaN = false := by
  cases d with
  | none => cases h
  | some x => cases h; exact write_num f x (hd x rfl)

theorem floatBits_num {op : BinOp} {k : FloatKind} {x y r : Nat} (h : floatBits op k x y = some r) : (k.decode r).isNaN = false := by
  unfold floatBits at h
  unfold FloatKind.decode
  split at h
  · exact map_write_num _ (fun _ => sum_num) h
  · exact map_write_num _ (fun _ => sum_num) h
  · exact map_write_num _ (fun _ => product_num) h
  · exact map_write_num _ (fun _ => quotient_num) h
  · cases h

theorem floatBits_fl {op : BinOp} {k : FloatKind} {x y r : Nat} (h : floatBits op k x y = some r) : fl k r = some r := by
  unfold fl; rw [floatBits_num h]; rfl

theorem floatBits_nan {op : BinOp} {k : FloatKind} {x y : Nat} (h : (k.decode x).isNaN = true ∨ (k.decode y).isNaN = true) : floatBits op k x y = none := by
  unfold floatBits Format.add Format.sub Format.mul Format.div
  unfold FloatKind.decode at h
  rcases h with h | h
  · cases hx : k.format.read x <;> rw [hx] at h <;> simp [Datum.isNaN] at h
    cases op <;> rfl
  · cases hy : k.format.read y <;> rw [hy] at h <;> simp [Datum.isNaN] at h
    cases op <;> cases k.format.read x <;> rfl

/-- An operation on floats up to which NaN. -/
def fop (op : BinOp) (k : FloatKind) (x y : Option Nat) : Option Nat := x.bind fun a => y.bind fun b => floatBits op k a b

theorem fop_fl (op : BinOp) (k : FloatKind) (x y : Nat) : fop op k (fl k x) (fl k y) = floatBits op k x y := by
  unfold fop fl
  by_cases hx : (k.decode x).isNaN = true
  · rw [if_pos hx, floatBits_nan (Or.inl hx)]; rfl
  · rw [if_neg hx]
    by_cases hy : (k.decode y).isNaN = true
    · rw [if_pos hy, floatBits_nan (Or.inr hy)]; rfl
    · rw [if_neg hy]; rfl

theorem read_nan32 (m : Nat) (hm : m < 2 ^ 23 - 1) (s : Nat) : (FloatKind.f32.decode (s * 2 ^ 31 + 0x7f800000 + 1 + m)).isNaN = true := by
  have e : FloatKind.f32.format.signWeight = 2147483648 := by decide
  have e2 : FloatKind.f32.format.infRung = 2139095040 := by decide
  have e3 : FloatKind.f32.format.binade = 8388608 := by decide
  unfold FloatKind.decode Format.read
  have hr : (s * 2 ^ 31 + 0x7f800000 + 1 + m) % FloatKind.f32.format.signWeight = 2139095041 + m := by rw [e]; omega
  simp only [hr, e2, e3]
  rw [if_neg (by omega), if_neg (by omega), if_neg (by omega)]; rfl

theorem read_nan64 (m : Nat) (hm : m < 2 ^ 52 - 1) (s : Nat) : (FloatKind.f64.decode (s * 2 ^ 63 + 0x7ff0000000000000 + 1 + m)).isNaN = true := by
  have e : FloatKind.f64.format.signWeight = 9223372036854775808 := by decide
  have e2 : FloatKind.f64.format.infRung = 9218868437227405312 := by decide
  have e3 : FloatKind.f64.format.binade = 4503599627370496 := by decide
  unfold FloatKind.decode Format.read
  have hr : (s * 2 ^ 63 + 0x7ff0000000000000 + 1 + m) % FloatKind.f64.format.signWeight = 9218868437227405313 + m := by rw [e]; omega
  simp only [hr, e2, e3]
  rw [if_neg (by omega), if_neg (by omega), if_neg (by omega)]; rfl

def nanWord (k : FloatKind) (t : Nat) : Nat := match k with
  | .f32 => (t % 2) * 2 ^ 31 + 0x7f800000 + 1 + (t / 2) % (2 ^ 23 - 1)
  | .f64 => (t % 2) * 2 ^ 63 + 0x7ff0000000000000 + 1 + (t / 2) % (2 ^ 52 - 1)

theorem nanWord_nan (k : FloatKind) (t : Nat) : fl k (nanWord k t) = none ∧ nanWord k t < 2 ^ k.format.width := by
  cases k
  · have h := read_nan32 ((t / 2) % (2 ^ 23 - 1)) (Nat.mod_lt _ (by decide)) (t % 2)
    refine ⟨by unfold fl nanWord; rw [if_pos h], ?_⟩
    have e : FloatKind.f32.format.width = 32 := by decide
    have h1 : (t / 2) % (2 ^ 23 - 1) < 2 ^ 23 - 1 := Nat.mod_lt _ (by decide)
    have h2 : t % 2 < 2 := Nat.mod_lt _ (by decide)
    rw [e]; unfold nanWord; simp only; omega
  · have h := read_nan64 ((t / 2) % (2 ^ 52 - 1)) (Nat.mod_lt _ (by decide)) (t % 2)
    refine ⟨by unfold fl nanWord; rw [if_pos h], ?_⟩
    have e : FloatKind.f64.format.width = 64 := by decide
    have h1 : (t / 2) % (2 ^ 52 - 1) < 2 ^ 52 - 1 := Nat.mod_lt _ (by decide)
    have h2 : t % 2 < 2 := Nat.mod_lt _ (by decide)
    rw [e]; unfold nanWord; simp only; omega

theorem cut_nanBits (k : FloatKind) (x y t : Nat) : (Question.nanBits k x y).cut t = nanWord k t := by cases k <;> rfl
theorem cut_nanConv (k : FloatKind) (x t : Nat) : (Question.nanConv k x).cut t = nanWord k t := by cases k <;> rfl

section
variable {P : Program} (w : World)
def isArith : BinOp → Bool | .add | .sub | .mul | .quo => true | _ => false

/-- A float operation, of whatever operands: some bits, up to which NaN those of 'fop'; at most one draw. -/
theorem run_fop (op : BinOp) (hop : isArith op = true) (t : TypeId) (k : FloatKind) (x y : Nat) :
    ∃ r n, (binOp op t (.float k x) (.float k y)).run P w = .ok (.float k r) (w.drewN n) ∧ fl k r = fop op k (fl k x) (fl k y) ∧ r < 2 ^ k.format.width := by
  rw [fop_fl]
  cases h : floatBits op k x y with
  | some r =>
    refine ⟨r, 0, run_float_arith w op t k x y r h, floatBits_fl h, ?_⟩
    unfold floatBits at h
    split at h
    · exact k.format.add_lt h
    · exact k.format.sub_lt h
    · exact k.format.mul_lt h
    · exact k.format.div_lt h
    · cases h
  | none =>
    refine ⟨nanWord k (w.tape w.drawn (.nanBits k x y)), 1, ?_, (nanWord_nan k _).1, (nanWord_nan k _).2⟩
    rw [← cut_nanBits k x y]
    unfold floatBits at h
    cases op <;> simp [isArith] at hop <;> simp only at h <;> simp [binOp, Op.floatArith, h] <;> rfl
end

theorem read_rung (f : Format) (neg : Bool) (e kept : Nat) (h : kept < 2 * f.binade) (h2 : e = 0 ∨ f.binade ≤ kept) (h3 : e * f.binade + kept < f.infRung) :
    f.read (f.word neg (e * f.binade + kept)) = .number neg kept (f.leastPlace + e) := by
  have hi := f.infRung_lt
  have hb : 0 < f.binade := Nat.two_pow_pos _
  generalize hr : e * f.binade + kept = rung at *
  have hw : f.word neg rung % f.signWeight = rung := by
    unfold Format.word; split
    · rw [Nat.add_mod_left]; exact Nat.mod_eq_of_lt (by omega)
    · exact Nat.mod_eq_of_lt (by omega)
  have hn : (f.word neg rung / f.signWeight % 2 == 1) = neg := by
    unfold Format.word
    cases neg
    · simp only [Bool.false_eq_true, if_false]
      rw [Nat.div_eq_of_lt (by omega)]; rfl
    · simp only [if_true]
      rw [Nat.add_div_left _ (by omega), Nat.div_eq_of_lt (by omega)]; rfl
  unfold Format.read
  simp only [hw, hn]
  by_cases h0 : e = 0
  · subst h0
    simp only [Nat.zero_mul, Nat.zero_add] at hr
    subst hr
    split
    · simp
    · have hd : kept / f.binade = 1 := by
        apply Nat.div_eq_of_lt_le <;> omega
      have hm : kept % f.binade = kept - f.binade := by
        rw [Nat.mod_eq_sub_mod (by omega), Nat.mod_eq_of_lt (by omega)]
      rw [hd, hm]
      congr 1
      omega
  · have hk : f.binade ≤ kept := by omega
    have hge : ¬ rung < f.binade := by omega
    rw [if_neg hge, if_pos h3]
    have e1 : rung = (kept - f.binade) + f.binade * (e + 1) := by
      rw [← hr, Nat.mul_add, Nat.mul_comm]; omega
    have hd : rung / f.binade = e + 1 := by
      rw [e1, Nat.add_mul_div_left _ _ hb, Nat.div_eq_of_lt (by omega)]; omega
    have hm : rung % f.binade = kept - f.binade := by
      rw [e1, Nat.add_mul_mod_self_left, Nat.mod_eq_of_lt (by omega)]
    rw [hd, hm]
    congr 1
    omega

/-- What a finite word stands for: its digits and its place. -/
theorem read_form (f : Format) (hf : f.binade ≤ f.infRung) (b : Nat) : (∃ s m e, f.read b = .number s m (f.leastPlace + (e : Nat)) ∧ m < 2 * f.binade ∧ (e = 0 ∨ f.binade ≤ m) ∧ e * f.binade + m < f.infRung ∧ b % f.signWeight = e * f.binade + m ∧ s = (b / f.signWeight % 2 == 1)) ∨
    (∃ s, f.read b = .infinity s ∧ b % f.signWeight = f.infRung ∧ s = (b / f.signWeight % 2 == 1)) ∨ (f.read b).isNaN = true := by
  have hb : 0 < f.binade := Nat.two_pow_pos _
  unfold Format.read
  simp only
  generalize b % f.signWeight = rung
  split
  · rename_i h
    exact Or.inl ⟨_, rung, 0, by simp, by omega, Or.inl rfl, by omega, by omega, rfl⟩
  · rename_i h
    split
    · rename_i h2
      refine Or.inl ⟨_, _, rung / f.binade - 1, rfl, ?_, Or.inr ?_, ?_, ?_, rfl⟩
      · have := Nat.mod_lt rung hb; omega
      · omega
      · have h3 : rung = f.binade * (rung / f.binade) + rung % f.binade := (Nat.div_add_mod _ _).symm
        have h4 : 1 ≤ rung / f.binade := (Nat.le_div_iff_mul_le hb).2 (by omega)
        obtain ⟨q, hq⟩ : ∃ q, rung / f.binade = q + 1 := ⟨_, (Nat.sub_add_cancel h4).symm⟩
        rw [hq] at h3 ⊢
        have : (q + 1 - 1) * f.binade + (f.binade + rung % f.binade) = rung := by
          rw [Nat.add_sub_cancel, Nat.mul_comm]; rw [Nat.mul_add] at h3; omega
        omega
      · have h3 : rung = f.binade * (rung / f.binade) + rung % f.binade := (Nat.div_add_mod _ _).symm
        have h4 : 1 ≤ rung / f.binade := (Nat.le_div_iff_mul_le hb).2 (by omega)
        obtain ⟨q, hq⟩ : ∃ q, rung / f.binade = q + 1 := ⟨_, (Nat.sub_add_cancel h4).symm⟩
        rw [hq] at h3 ⊢
        rw [Nat.add_sub_cancel, Nat.mul_comm]; rw [Nat.mul_add] at h3; omega
    · split
      · rename_i h3; exact Or.inr (Or.inl ⟨_, rfl, h3, rfl⟩)
      · exact Or.inr (Or.inr rfl)

theorem cut_exact (way : Toward) (neg : Bool) (kept d : Nat) : way.cut neg (kept * 2 ^ d) d = kept := by
  have key : ∃ g, 1 <<< min d ((kept * 2 ^ d).log2 + 2) = g ∧ 0 < g ∧ (kept * 2 ^ d) / g = kept ∧ (kept * 2 ^ d) % g = 0 := by
    by_cases hk : kept = 0
    · subst hk; exact ⟨_, rfl, by rw [Nat.one_shiftLeft]; exact Nat.two_pow_pos _, by simp, by simp⟩
    · have hd : d ≤ (kept * 2 ^ d).log2 := by
        rw [Nat.le_log2 (by have := Nat.two_pow_pos d; exact Nat.mul_ne_zero hk (by omega))]
        exact Nat.le_mul_of_pos_left _ (by omega)
      refine ⟨2 ^ d, by rw [Nat.min_eq_left (by omega), Nat.one_shiftLeft], Nat.two_pow_pos _, Nat.mul_div_cancel _ (Nat.two_pow_pos _), Nat.mul_mod_left _ _⟩
  obtain ⟨g, hg, hg0, hdiv, hmod⟩ := key
  unfold Toward.cut
  simp only [hg, hdiv, hmod]
  have h1 : (g == 2 * 0) = false := by simp; omega
  cases way <;> simp <;> omega

theorem nearest_exact (f : Format) (neg : Bool) (m : Nat) (place : Int) (e kept : Nat) (hm : m ≠ 0)
    (hlast : max (place + (m.log2 : Int) - (f.fractionBits : Int)) f.leastPlace = f.leastPlace + (e : Int))
    (hk : m * 2 ^ (place - (f.leastPlace + (e : Int))).toNat = kept * 2 ^ (f.leastPlace + (e : Int) - place).toNat) (hinf : e * f.binade + kept ≤ f.infRung) :
    f.nearest neg m place = f.word neg (e * f.binade + kept) := by
  unfold Format.nearest
  rw [if_neg hm]
  simp only [hlast, Nat.shiftLeft_eq, hk, cut_exact]
  rw [show (f.leastPlace + (e : Int) - f.leastPlace).toNat = e by omega, Nat.min_eq_left hinf]

theorem single_least : single.leastPlace = -149 := by decide
theorem double_least : double.leastPlace = -1074 := by decide
theorem single_binade : single.binade = 8388608 := by decide
theorem double_binade : double.binade = 4503599627370496 := by decide
theorem single_inf : single.infRung = 255 * 8388608 := by decide
theorem double_inf : double.infRung = 2047 * 4503599627370496 := by decide

theorem log2_pow (m L d : Nat) (h0 : 2 ^ L ≤ m) (h1 : m < 2 ^ (L + 1)) : (m * 2 ^ d).log2 = L + d := by
  have hd := Nat.two_pow_pos d
  have hm : m * 2 ^ d ≠ 0 := by
    have := Nat.two_pow_pos L
    exact Nat.mul_ne_zero (by omega) (by omega)
  rw [Nat.log2_eq_iff hm]
  constructor
  · rw [Nat.pow_add]; exact Nat.mul_le_mul_right _ h0
  · rw [show L + d + 1 = (L + 1) + d by omega, Nat.pow_add]; exact Nat.mul_lt_mul_of_pos_right h1 hd

/-- A number of 24 digits at most, in 64 bits: the same number. -/
theorem widen_word (s : Bool) (m e : Nat) (hm : m < 2 ^ 24) (he : e ≤ 253) :
    ∃ m' e', double.nearest s m (-149 + (e : Int)) = double.word s (e' * double.binade + m') ∧ m' < 2 * double.binade ∧ (e' = 0 ∨ double.binade ≤ m') ∧ e' * double.binade + m' < double.infRung ∧
      m' * 2 ^ e' = m * 2 ^ (e + 925) := by
  by_cases h0 : m = 0
  · subst h0
    refine ⟨0, 0, ?_, by rw [double_binade]; omega, Or.inl rfl, by rw [double_binade, double_inf]; omega, by rw [Nat.zero_mul, Nat.zero_mul]⟩
    simp [Format.nearest]
  · have hL0 := (Nat.le_log2 h0 (k := m.log2)).1 (Nat.le_refl _)
    have hL1 : m < 2 ^ (m.log2 + 1) := Nat.lt_log2_self
    have hL : m.log2 ≤ 23 := by
      have : m.log2 < 24 := (Nat.log2_lt h0).2 hm
      omega
    generalize hl : m.log2 = L at *
    have hp : 2 ^ L * 2 ^ (52 - L) = 4503599627370496 := by rw [← Nat.pow_add, show L + (52 - L) = 52 by omega]
    have hq : 2 ^ (L + 1) * 2 ^ (52 - L) = 9007199254740992 := by rw [← Nat.pow_add, show L + 1 + (52 - L) = 53 by omega]
    have hlo : 4503599627370496 ≤ m * 2 ^ (52 - L) := by rw [← hp]; exact Nat.mul_le_mul_right _ hL0
    have hhi : m * 2 ^ (52 - L) < 9007199254740992 := by rw [← hq]; exact Nat.mul_lt_mul_of_pos_right hL1 (Nat.two_pow_pos _)
    refine ⟨m * 2 ^ (52 - L), e + L + 873, ?_, by rw [double_binade]; omega, Or.inr (by rw [double_binade]; omega), by rw [double_binade, double_inf]; omega, ?_⟩
    · refine nearest_exact double s m _ (e + L + 873) (m * 2 ^ (52 - L)) h0 ?_ ?_ (by rw [double_binade, double_inf]; omega)
      · rw [hl, double_least]; show max (-149 + (e : Int) + (L : Int) - ((52 : Nat) : Int)) (-1074) = _; omega
      · rw [double_least, show (-149 + (e : Int) - (-1074 + ((e + L + 873 : Nat) : Int))).toNat = 52 - L by omega, show (-1074 + ((e + L + 873 : Nat) : Int) - (-149 + (e : Int))).toNat = 0 by omega]; simp
    · rw [Nat.mul_assoc, ← Nat.pow_add, show 52 - L + (e + L + 873) = e + 925 by omega]

/-- The same number written in 32 bits is the word that it came from. -/
theorem narrow_word (s : Bool) (m e m' e' : Nat) (hm : m < 2 ^ 24) (hme : e = 0 ∨ 2 ^ 23 ≤ m) (he : e * 8388608 + m < 255 * 8388608) (hv : m' * 2 ^ e' = m * 2 ^ (e + 925)) :
    single.nearest s m' (-1074 + (e' : Int)) = single.word s (e * single.binade + m) := by
  by_cases h0 : m = 0
  · have h1 : m' = 0 := by
      subst h0
      simp only [Nat.zero_mul] at hv
      rcases Nat.mul_eq_zero.1 hv with h | h
      · exact h
      · have := Nat.two_pow_pos e'; omega
    have he0 : e = 0 := by omega
    subst h1; subst h0; subst he0
    simp [Format.nearest]
  · have hm' : m' ≠ 0 := by
      intro h; subst h
      simp only [Nat.zero_mul] at hv
      have := Nat.mul_ne_zero h0 (show 2 ^ (e + 925) ≠ 0 by have := Nat.two_pow_pos (e + 925); omega)
      omega
    have hL0 := (Nat.le_log2 h0 (k := m.log2)).1 (Nat.le_refl _)
    have hL1 : m < 2 ^ (m.log2 + 1) := Nat.lt_log2_self
    have hM0 := (Nat.le_log2 hm' (k := m'.log2)).1 (Nat.le_refl _)
    have hM1 : m' < 2 ^ (m'.log2 + 1) := Nat.lt_log2_self
    have hlog : m'.log2 + e' = m.log2 + (e + 925) := by
      rw [← log2_pow m' _ e' hM0 hM1, ← log2_pow m _ (e + 925) hL0 hL1, hv]
    have hL : m.log2 ≤ 23 := by
      have : m.log2 < 24 := (Nat.log2_lt h0).2 hm
      omega
    have hLe : e = 0 ∨ m.log2 = 23 := by
      rcases hme with h | h
      · exact Or.inl h
      · have := (Nat.le_log2 h0).2 h; omega
    refine nearest_exact single s m' _ e m hm' ?_ ?_ (by rw [single_binade, single_inf]; omega)
    · rw [single_least]; show max (-1074 + (e' : Int) + (m'.log2 : Int) - ((23 : Nat) : Int)) (-149) = _; omega
    · rw [single_least]
      rcases Nat.le_total e' (e + 925) with h | h
      · obtain ⟨d, hd⟩ := Nat.exists_eq_add_of_le h
        rw [show (-1074 + (e' : Int) - (-149 + (e : Int))).toNat = 0 by omega, show (-149 + (e : Int) - (-1074 + (e' : Int))).toNat = d by omega]
        rw [hd, Nat.pow_add, Nat.mul_comm (2 ^ e'), ← Nat.mul_assoc] at hv
        have := Nat.eq_of_mul_eq_mul_right (Nat.two_pow_pos e') hv
        simpa using this
      · obtain ⟨d, hd⟩ := Nat.exists_eq_add_of_le h
        rw [show (-149 + (e : Int) - (-1074 + (e' : Int))).toNat = 0 by omega, show (-1074 + (e' : Int) - (-149 + (e : Int))).toNat = d by omega]
        rw [hd, Nat.pow_add, Nat.mul_comm (2 ^ (e + 925)), ← Nat.mul_assoc] at hv
        have := Nat.eq_of_mul_eq_mul_right (Nat.two_pow_pos (e + 925)) hv
        simpa using this

end Go.Proofs.Ytfmhdnhaaohdjaa
