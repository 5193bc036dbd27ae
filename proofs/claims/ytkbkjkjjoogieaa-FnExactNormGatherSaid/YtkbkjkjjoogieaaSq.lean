/- The square root of a 64-bit float up to which NaN, its bound, and the contract of math.Sqrt. No condition but the bounds. -/
import Derived.Test.YtkbkjkjjoogieaaBd
import Derived.Test.YtkbkjkjjoogieaaC1
namespace Go.Proofs.Ytkbkjkjjoogieaa
open Go.RowKit Ieee

theorem rootFrom_lt (n : Nat) : ∀ todo root : Nat, Datum.rootFrom n todo root < root + 2 ^ todo
  | 0, root => by simp [Datum.rootFrom]
  | todo + 1, root => by
    have h1 := rootFrom_lt n todo (root + 1 <<< todo)
    have h2 := rootFrom_lt n todo root
    have h3 : (2 : Nat) ^ (todo + 1) = 2 ^ todo + 2 ^ todo := by rw [Nat.pow_succ]; omega
    have h4 : 1 <<< todo = 2 ^ todo := Nat.one_shiftLeft _
    have h5 := Nat.two_pow_pos todo
    simp only [Datum.rootFrom]
    rw [h4] at h1 ⊢
    split <;> omega

/-- The square root, up to which NaN. -/
def fsqrt (X : Option Nat) : Option Nat := X.bind fun a => FloatKind.f64.format.sqrt a

theorem root_num {n : Nat} {x d : Datum} (h : x.root n = some d) : d.isNaN = false := by
  cases x <;> simp only [Datum.root] at h
  case nan => cases h
  case infinity s => split at h <;> first | (cases h; done) | (cases h; rfl)
  case number => 
    split at h
    · cases h; rfl
    · split at h
      · cases h
      · cases h; rfl

theorem sqrt_fl {x r : Nat} (h : FloatKind.f64.format.sqrt x = some r) : fl .f64 r = some r := by
  have : (FloatKind.f64.decode r).isNaN = false := map_write_num _ (fun _ => root_num) h
  unfold fl; rw [this]; rfl

theorem fsqrt_fl (x : Nat) : fsqrt (fl .f64 x) = FloatKind.f64.format.sqrt x := by
  unfold fsqrt
  cases h : fl .f64 x with
  | some c => rw [(fl_some h).1]; rfl
  | none =>
    have : (FloatKind.f64.decode x).isNaN = true := by
      unfold fl at h; split at h
      · assumption
      · cases h
    unfold Format.sqrt
    unfold FloatKind.decode at this
    cases hx : FloatKind.f64.format.read x <;> rw [hx] at this <;> simp [Datum.isNaN] at this
    rfl

theorem bd_sqrt {X : Option Nat} {E F : Nat} (hx : Bd X E) (hE : E ≤ 1210) (hF : F = 1150) : Bd (fsqrt X) F := by
  cases X with
  | none => exact bd_none _
  | some a =>
    obtain ⟨s, m, e, ha, hae⟩ := hx a rfl
    show Bd (FloatKind.f64.format.sqrt a) F
    unfold Format.sqrt
    rw [ha.read, least64, frac64]
    by_cases hm : m = 0
    · subst hm
      simp only [Datum.root, if_true, Option.map_some]
      refine bd_near _ _ _ F (by omega) (by omega) ?_
      rw [Nat.zero_mul]; exact Nat.zero_le _
    · cases s
      · simp only [Datum.root, if_neg hm, Bool.false_eq_true, if_false, Option.map_some]
        refine bd_near _ _ _ F (by omega) (by omega) ?_
        generalize hmo : 2 * (52 + 2) - m.log2 + ((-1074 + (e : Int) - ((2 * (52 + 2) - m.log2 : Nat) : Int)) % 2).toNat = more
        have hlt := rootFrom_lt (m <<< more) ((m <<< more).log2 / 2 + 1) 0
        have hb := Bool.toNat_le (Datum.rootFrom (m <<< more) ((m <<< more).log2 / 2 + 1) 0 * Datum.rootFrom (m <<< more) ((m <<< more).log2 / 2 + 1) 0 != m <<< more)
        generalize (Datum.rootFrom (m <<< more) ((m <<< more).log2 / 2 + 1) 0 * Datum.rootFrom (m <<< more) ((m <<< more).log2 / 2 + 1) 0 != m <<< more).toNat = bit at *
        generalize Datum.rootFrom (m <<< more) ((m <<< more).log2 / 2 + 1) 0 = whole at *
        have hG : (m <<< more).log2 = m.log2 + more := by
          rw [Nat.shiftLeft_eq]
          exact log2_pow m m.log2 more ((Nat.le_log2 hm).1 (Nat.le_refl _)) Nat.lt_log2_self
        rw [hG] at hlt
        have hme : m.log2 + e ≤ E := by
          have h1 : 2 ^ m.log2 * 2 ^ e ≤ 2 ^ E := Nat.le_trans (Nat.mul_le_mul_right _ ((Nat.le_log2 hm).1 (Nat.le_refl _))) hae
          rw [← Nat.pow_add] at h1
          exact (Nat.pow_le_pow_iff_right (by omega)).1 h1
        generalize m.log2 = lg at *
        have hmag : 2 * whole + bit ≤ 2 ^ ((lg + more) / 2 + 2) := by
          have : (2 : Nat) ^ ((lg + more) / 2 + 2) = 2 * 2 ^ ((lg + more) / 2 + 1) := by rw [← Nat.pow_succ']
          omega
        generalize 2 * whole + bit = mag at *
        refine Nat.le_trans (Nat.mul_le_mul_right _ hmag) ?_
        rw [← Nat.pow_add, ← Nat.pow_add]
        exact Nat.pow_le_pow_right (by omega) (by omega)
      · simp only [Datum.root, if_neg hm, if_true]
        exact bd_none _

/-- A float32 made wide is bound, where it is finite; where it is not, so is its root. -/
theorem bd_wide {b : Nat} {s : Bool} {m e E : Nat} (h : Fin_ .f32 b s m e) (hE : E = 1202) : Bd (some (wide b)) E := by
  intro c hc
  have := Option.some.inj hc
  subst this
  obtain ⟨m', e', hw, hv⟩ := h.wide
  refine ⟨s, m', e', hw, ?_⟩
  rw [hv]
  obtain ⟨h1, h2, _, _⟩ := h.e32
  refine Nat.le_trans (Nat.mul_le_mul (Nat.le_of_lt h1) (Nat.pow_le_pow_right (by omega) (show e + 925 ≤ E - 24 by omega))) ?_
  rw [← Nat.pow_add]
  exact Nat.pow_le_pow_right (by omega) (by omega)

theorem fits_root {b : Nat} {X : Option Nat} (h : Fl .f32 b X) : Fits .f64 .f32 (fsqrt (fconv .f32 .f64 X)) := by
  rw [← h.eq]
  unfold fconv; rw [if_neg (by decide)]
  rcases shape .f32 b with ⟨s, m, e, k⟩ | ⟨s, hr, hg, _⟩ | k
  · rw [k.fl]
    exact fits_bd (bd_sqrt (bd_wide k rfl) (by omega) rfl) (by omega)
  · rw [fl_inf hr]
    have h1 := wide_inf hr
    right
    intro a ha
    left
    show (FloatKind.f64.format.read a).isInfinity = true
    have ha' : FloatKind.f64.format.sqrt (wide b) = some a := ha
    unfold Format.sqrt at ha'
    rw [h1] at ha'
    cases s
    · simp only [Datum.root, Bool.false_eq_true, if_false, Option.map_some] at ha'
      rw [← Option.some.inj ha']
      decide +kernel
    · simp [Datum.root] at ha'
  · rw [k]
    right
    intro a ha
    cases ha

end Go.Proofs.Ytkbkjkjjoogieaa
