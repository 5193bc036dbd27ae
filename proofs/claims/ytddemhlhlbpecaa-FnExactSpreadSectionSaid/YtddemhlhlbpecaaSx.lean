/- Where a cell sends to: a depth and a share. No condition. -/
import Derived.Test.YtddemhlhlbpecaaNq
import Derived.Test.YtddemhlhlbpecaaXe
namespace Go.Proofs.Ytddemhlhlbpecaa
open Go.RowKit Ieee
set_option linter.unusedVariables false
set_option linter.unusedSimpArgs false

theorem fin_same {a b m e n j : Nat} (ha : Fin_ .f32 a false m e) (hb : Fin_ .f32 b false n j) (h : m * 2 ^ e = n * 2 ^ j) (hla : a < 4294967296) (hlb : b < 4294967296) : a = b := by
  have h1 := word32 ha hla
  have h2 := word32 hb hlb
  have a1 := ha.lt; have a2 := ha.low; have b1 := hb.lt; have b2 := hb.low
  rw [bin32] at a1 a2 b1 b2
  have h3 := value_rung (B := 8388608) a1 a2 b1 b2 (Nat.le_of_eq h)
  have h4 := value_rung (B := 8388608) b1 b2 a1 a2 (Nat.le_of_eq h.symm)
  rw [h1, h2]
  omega
/-- Its whole part has few digits. -/
theorem whole_few {t m e : Nat} (k : Fin_ .f32 t false m e) : ∃ N b, N < 16777216 ∧ b ≤ 253 ∧ N * 2 ^ b = m * 2 ^ e / 2 ^ 149 * 2 ^ 149 := by
  obtain ⟨G, hG⟩ : ∃ G : Nat, G = 149 := ⟨_, rfl⟩
  obtain ⟨q1, q2, _, _⟩ := k.e32
  have h3 : m < 16777216 := by simpa using q1
  rw [← hG]
  by_cases hK : m * 2 ^ e / 2 ^ G < 16777216
  · exact ⟨_, G, hK, by omega, rfl⟩
  · have heG : G ≤ e := by
      apply Classical.byContradiction
      intro hlt
      have h1 : m * 2 ^ e / 2 ^ G ≤ m := by
        have h2 : m * 2 ^ e ≤ m * 2 ^ G := Nat.mul_le_mul_left _ (Nat.pow_le_pow_right (by omega) (by omega))
        calc m * 2 ^ e / 2 ^ G ≤ m * 2 ^ G / 2 ^ G := Nat.div_le_div_right h2
          _ = m := Nat.mul_div_cancel _ (Nat.two_pow_pos _)
      omega
    obtain ⟨d, hd2⟩ : ∃ d, e = G + d := ⟨e - G, by omega⟩
    have hKe : m * 2 ^ e / 2 ^ G = m * 2 ^ d := by
      rw [hd2, Nat.pow_add, Nat.mul_comm (2 ^ G) (2 ^ d), ← Nat.mul_assoc]
      exact Nat.mul_div_cancel _ (Nat.two_pow_pos _)
    exact ⟨m, e, h3, q2, by rw [hKe, hd2, Nat.mul_assoc, ← Nat.pow_add, Nat.add_comm d G]⟩
/-- Rounded down in 64 bits, and made a 32-bit float. -/
theorem floor_narrow {t x : Nat} {X : Option Nat} (h : Fl .f32 t X) (hx : Fl .f64 x (fconv .f32 .f64 X)) (hX : Nk .f32 X) :
    Fl .f64 (floorw x) (some (floorw x)) ∧ Fits .f64 .f32 (some (floorw x)) ∧ (∀ n, n < 16777216 → flt32 X (some (mk n)) = true → fconv .f64 .f32 (some (floorw x)) = some (mk (flo X))) := by
  have hX0 := hX
  obtain ⟨b, rfl, hp⟩ := hX
  obtain ⟨rfl, _⟩ := fl_some h.eq
  have hxw : x = wide b := by
    have h1 := hx.eq
    have h2 : fconv .f32 .f64 (some b) = some (wide b) := rfl
    rw [h2] at h1
    exact (fl_some h1).1.symm
  subst hxw
  have hlt : floorw (wide b) < 2 ^ FloatKind.f64.format.width := FloatKind.f64.format.write_lt _
  rcases shape .f32 b with ⟨s, m, e, k⟩ | ⟨s, hr, _, _⟩ | k
  · have hs : s = false := by rw [k.read] at hp; simpa [pls] using hp
    subst hs
    obtain ⟨n, j, kf, hf⟩ := floor_val k
    obtain ⟨N, c, hN, hc, hv⟩ := whole_few k
    have hflo : flo (some b) = m * 2 ^ e / 2 ^ 149 := flo_fin k
    have hcv : fconv .f64 .f32 (some (floorw (wide b))) = some (FloatKind.f32.format.nearest false n (-1074 + (j : Int))) := by
      show some (FloatKind.f32.format.write (FloatKind.f64.format.read (floorw (wide b)))) = _
      rw [kf.read, least64]; rfl
    have key : ∃ m1 e1, Fin_ .f32 (FloatKind.f32.format.nearest false n (-1074 + (j : Int))) false m1 e1 ∧ m1 * 2 ^ e1 = N * 2 ^ c := by
      refine near_few .f32 false (by rw [bin32]; omega) (by rw [bin32, inf32]; exact Nat.mul_le_mul_right _ (by omega)) ?_
      rw [least32]
      obtain ⟨D, hD⟩ : ∃ D : Nat, D = 925 := ⟨_, rfl⟩
      have hlp : lp64 = 149 + D := by rw [lp64_eq, hD]
      rw [hlp] at hf
      have e1 : (-1074 + (j : Int) - -149).toNat = j - D := by omega
      have e2 : (-149 - (-1074 + (j : Int))).toNat = D - j := by omega
      rw [e1, e2]
      have hf2 : n * 2 ^ j = N * 2 ^ c * 2 ^ D := by
        rw [hf, hv, Nat.mul_assoc (m * 2 ^ e / 2 ^ 149), ← Nat.pow_add]
      rcases Nat.le_total D j with hj | hj
      · rw [show D - j = 0 by omega, Nat.pow_zero, Nat.mul_one]
        have h5 : n * 2 ^ (j - D) * 2 ^ D = N * 2 ^ c * 2 ^ D := by rw [Nat.mul_assoc, ← Nat.pow_add, Nat.sub_add_cancel hj]; exact hf2
        exact Nat.eq_of_mul_eq_mul_right (Nat.two_pow_pos D) h5
      · rw [show j - D = 0 by omega, Nat.pow_zero, Nat.mul_one]
        have h5 : n * 2 ^ j = N * 2 ^ c * 2 ^ (D - j) * 2 ^ j := by rw [Nat.mul_assoc (N * 2 ^ c), ← Nat.pow_add, Nat.sub_add_cancel hj]; exact hf2
        exact Nat.eq_of_mul_eq_mul_right (Nat.two_pow_pos j) h5
    obtain ⟨m1, e1, k1, hv1⟩ := key
    refine ⟨⟨kf.fl, hlt⟩, ?_, fun a ha hb => ?_⟩
    · right
      intro y hy
      cases hy
      right
      have h6 := hcv
      unfold fconv at h6
      rw [if_neg (by decide)] at h6
      simp only [Option.map_some, Option.some.injEq] at h6
      rw [h6]
      unfold FloatKind.decode
      rw [k1.read]; rfl
    · rw [hcv]
      obtain ⟨hlo, _⟩ := below32 h hX0 ha hb
      obtain ⟨a', j', ka, hav⟩ := int_fin32 (flo (some b)) (by omega)
      refine congrArg some (fin_same k1 ka ?_ (FloatKind.f32.format.write_lt (.number false n (-1074 + (j : Int)))) (mk_lt _))
      rw [hv1, hv, hav, hflo]
  · have hs : s = false := by rw [hr] at hp; simpa [pls] using hp
    subst hs
    have hw : FloatKind.f64.decode (wide b) = .infinity false := by
      have e1 : wide b = FloatKind.f64.format.write (FloatKind.f32.format.read b) := rfl
      rw [e1, hr]; decide +kernel
    have hfl : floorw (wide b) = FloatKind.f64.format.write (.infinity false) := by unfold floorw; rw [hw]; rfl
    refine ⟨⟨encode_fl (k := .f64) (by rw [hw]; rfl), hlt⟩, ?_, fun a ha hb => ?_⟩
    · right
      intro y hy
      cases hy
      left
      rw [hfl]; decide +kernel
    · exfalso
      obtain ⟨a', j', ka, _⟩ := int_fin32 a ha
      rw [← h.olt (fl_mk a)] at hb
      unfold Format.order at hb
      rw [hr, ka.read] at hb; cases hb
  · have := h.eq
    rw [k] at this; cases this
def ki (i : Int) : Option Nat := some (floatOfInt .f32 i)
theorem fl_ki (i : Int) : Fl .f32 (floatOfInt .f32 i) (ki i) := ⟨encode_fl (k := .f32) (d := .number (i < 0) i.natAbs 0) rfl, FloatKind.f32.format.write_lt (.number (i < 0) i.natAbs 0)⟩
theorem nq_ki (i : Int) : Nq (ki i) := nq_of (fl_ki i) (by intro h; cases h)
/-- When a curve comes, at z deep and d aside. -/
def cvT (z d : Int) (V : Option Nat) : Option Nat := fcurve (ki z) (ki d) V
theorem nk_cv {v : Nat} {V : Option Nat} (z d : Int) (hv : Fl .f32 v V) (hV : fabove V = true) : Nk .f32 (cvT z d V) := nk_curve (nq_ki z) (nq_ki d) hv hV
set_option maxRecDepth 20000 in
set_option maxHeartbeats 4000000 in
theorem c_l06Curve {w : World} {x z u : Int} {v : Nat} {V : Option Nat} (hv : Fl .f32 v V) (hV : fabove V = true) {d : Int} (hd : IntKind.i64.wrap (u - x) = d) :
    Calls Try.prog 130 #[.int .i64 x, .int .i64 z, .int .i64 u, .float .f32 v] w fun e w' => ∃ y r t, e = .returned (.tuple #[.float .f64 (floorw y), .float .f32 r]) ∧ Fl .f32 t (cvT z d V) ∧ Fl .f64 y (fconv .f32 .f64 (cvT z d V)) ∧ Fl .f32 r (fop .sub .f32 (cvT z d V) (fconv .f64 .f32 (some (floorw y)))) ∧ Dr w w' := by
  have HNK := Lib.hid (nk_cv z d hv hV)
  have HT := Lib.hid (show froot (fop .add .f32 (fop .mul .f32 (ki z) (ki z)) (fop .mul .f32 (fop .quo .f32 (ki d) V) (fop .quo .f32 (ki d) V))) = cvT z d V from rfl)
  have fz1 := fl_ki z
  have fd1 := fl_ki d
  go_enter Try.func130, Try.ntmps130
  go_wp2_with (first | (apply upon_fop rfl; (exact fd1); (exact hv); intro r1 n1 hr1) | (apply upon_fop rfl; (exact fz1); (exact fz1); intro r2 n2 hr2) | (apply upon_fop rfl; (exact hr1); (exact hr1); intro r3 n3 hr3) | (apply upon_fop rfl; (exact hr2); (exact hr3); intro r4 n4 hr4) | (go_at_call 122; refine Calls.mono (c_l01Sqrt hr4 _) ?_; rintro e w' ⟨r5, rfl, hr5, n5, rfl⟩; rw [HT.out] at hr5) | (apply upon_wide s_f32 Try.underlying41; (exact hr5); intro r6 n6 hr6; obtain ⟨k1, k2, _⟩ := floor_narrow hr5 hr6 HNK.out; have k3 := (floor_below hr5 hr6 HNK.out (n := 1) (by decide)).1) | (go_at_call 98; refine Calls.mono (c_Floor2 k3 _) ?_; rintro e w8 ⟨rfl, rfl⟩) | (apply upon_narrow s_f64 Try.underlying22; (exact k1); (exact k2); intro r7 n7 hr7) | (apply upon_fop rfl; (exact hr5); (exact hr7); intro r8 n8 hr8))
  go_ret2
  exact ⟨_, _, _, rfl, hr5, hr6, hr8, _, rfl⟩
end Go.Proofs.Ytddemhlhlbpecaa
