/- The sine of turns as a function of a float up to which NaN, and the contracts of the functions that reckon it. Condition: the number of turns lies where its whole part is an int64 (as the callers ask). -/
import Derived.Test.YtcjddnkebdjhoaaBd
import Derived.Test.YtcjddnkebdjhoaaC1
import Derived.Deep.DeepCutAuto
namespace Go.Proofs.Ytcjddnkebdjhoaa
open Go.RowKit Ieee

def k1 : Option Nat := fl .f64 4607182418800017408
def kHalf : Option Nat := fl .f64 4602678819172646912
def kQuarter : Option Nat := fl .f64 4598175219545276416
def kTurn : Option Nat := fl .f64 4618760256179416344
def flt (x y : Option Nat) : Bool := ford .f64 x y == some .lt
def fgt (x y : Option Nat) : Bool := ford .f64 x y == some .gt
def fge (x y : Option Nat) : Bool := ford .f64 x y == some .gt || ford .f64 x y == some .eq

/-- What is left of turns without the whole ones ('n': the whole part). -/
def fpart (X : Option Nat) (n : Int) : Option Nat :=
  let d := fop .sub .f64 X (fl .f64 (floatOfInt .f64 n))
  if flt d (fl .f64 0) then fop .add .f64 d k1 else d
def fden (k : Nat) : Option Nat := fl .f64 (floatOfInt .f64 ((2 * k * (2 * k + 1) : Nat) : Int))
def fpoly (U : Option Nat) : Nat → Option Nat
  | 0 => k1
  | j + 1 => fop .sub .f64 k1 (fop .quo .f64 (fop .mul .f64 U (fpoly U j)) (fden (8 - j)))
def kw (k : Nat) : Option Nat := fl .f64 (floatOfInt .f64 ((k : Nat) : Int))
theorem kw_ge : ∀ j, j < 8 → fge (kw (8 - j)) k1 = true := by decide +kernel
theorem kw_end : fge (kw 0) k1 = false := by decide +kernel
theorem kw_less : ∀ j, j < 8 → fop .sub .f64 (kw (8 - j)) k1 = kw (8 - (j + 1)) := by decide +kernel
theorem kw_den : ∀ j, j < 8 → fop .mul .f64 (fop .mul .f64 (fl .f64 4611686018427387904) (kw (8 - j))) (fop .add .f64 (fop .mul .f64 (fl .f64 4611686018427387904) (kw (8 - j))) k1) = fden (8 - j) := by decide +kernel
/-- How many rounds a float counter from 8 down has to go: its place among the nine words. -/
def cnt : Value → Nat
  | .float _ b => ((List.range 9).find? fun k => floatOfInt .f64 ((k : Nat) : Int) == b).getD 0
  | _ => 0
theorem kw_some : ∀ k, k ≤ 8 → kw k = some (floatOfInt .f64 ((k : Nat) : Int)) := by
  intro k hk
  have : ∀ k, k < 9 → kw k = some (floatOfInt .f64 ((k : Nat) : Int)) := by decide +kernel
  exact this k (by omega)
theorem cnt_less : ∀ j, j < 8 → cnt (.float .f64 (floatOfInt .f64 ((8 - (j + 1) : Nat) : Int))) < cnt (.float .f64 (floatOfInt .f64 ((8 - j : Nat) : Int))) := by decide +kernel
def fless (F : Option Nat) : Option Nat := if fge F kHalf then fop .sub .f64 F kHalf else F
def ffoldt (F : Option Nat) : Option Nat := if fgt F kQuarter then fop .sub .f64 kHalf F else F
def fneg (X : Option Nat) : Option Nat := X.map (Op.negFloat .f64 ·)
def fsin (F : Option Nat) : Option Nat :=
  let z := fop .mul .f64 (ffoldt (fless F)) kTurn
  let r := fop .mul .f64 z (fpoly (fop .mul .f64 z z) 8)
  if fge F kHalf then fneg r else r

theorem fsin_eq {F Z U : Option Nat} (hZ : fop .mul .f64 (ffoldt (fless F)) kTurn = Z) (hU : fop .mul .f64 Z Z = U) : fsin F = if fge F kHalf then fneg (fop .mul .f64 Z (fpoly U 8)) else fop .mul .f64 Z (fpoly U 8) := by
  subst hU; subst hZ; rfl

@[go_sem] theorem run_neg_float {P : Program} (w : World) (k : FloatKind) (b : Nat) : (Op.unary .neg (.float k b)).run P w = .ok (.float k (Op.negFloat k b)) w := rfl

theorem fneg_fl {r : Nat} {X : Option Nat} (h : Fl .f64 r X) : Fl .f64 (Op.negFloat .f64 r) (fneg X) := by
  have hm : (r ^^^ 2 ^ 63) % 2 ^ 63 = r % 2 ^ 63 := by rw [Nat.xor_mod_two_pow]; simp
  have hl : r ^^^ 2 ^ 63 < 2 ^ 64 := Nat.xor_lt_two_pow h.lt (by omega)
  refine ⟨?_, hl⟩
  show fl .f64 (r ^^^ 2 ^ 63) = _
  have hn : fl .f64 (r ^^^ 2 ^ 63) = none ↔ fl .f64 r = none := by
    rw [nan_rung, nan_rung, show FloatKind.f64.format.signWeight = 2 ^ 63 from sw64, hm]
  rw [← h.eq]
  cases hr : fl .f64 r with
  | none => rw [hn.2 hr]; rfl
  | some c =>
    obtain ⟨rfl, _⟩ := fl_some hr
    cases hq : fl .f64 (c ^^^ 2 ^ 63) with
    | none => rw [hn.1 hq] at hr; cases hr
    | some d => rw [(fl_some hq).1]; rfl

theorem flK {c : Nat} (h : c < 18446744073709551616) : Fl .f64 c (fl .f64 c) := Fl.of64 h

theorem fpart_lt {X : Option Nat} {n : Int} {r : Nat} (hr : Fl .f64 r (fop .sub .f64 X (fl .f64 (floatOfInt .f64 n)))) (h : (FloatKind.f64.format.order r 0 == some .lt) = true) :
    fpart X n = fop .add .f64 (fop .sub .f64 X (fl .f64 (floatOfInt .f64 n))) k1 := by
  have h0 : flt (fop .sub .f64 X (fl .f64 (floatOfInt .f64 n))) (fl .f64 0) = true := by unfold flt; rw [← hr.order (flK (by omega)), h]
  unfold fpart; simp only [h0, if_true]
theorem fpart_ge {X : Option Nat} {n : Int} {r : Nat} (hr : Fl .f64 r (fop .sub .f64 X (fl .f64 (floatOfInt .f64 n)))) (h : (FloatKind.f64.format.order r 0 == some .lt) = false) :
    fpart X n = fop .sub .f64 X (fl .f64 (floatOfInt .f64 n)) := by
  have h0 : flt (fop .sub .f64 X (fl .f64 (floatOfInt .f64 n))) (fl .f64 0) = false := by unfold flt; rw [← hr.order (flK (by omega)), h]
  unfold fpart; simp only [h0, Bool.false_eq_true, if_false]

set_option maxRecDepth 20000 in
set_option maxHeartbeats 400000 in
theorem c_partOfTurn {x : Nat} {X : Option Nat} (h : Fl .f64 x X) (n : Int) (hn : floatToIntVal .f64 x .i64 = some n) (w : World) :
    Calls Try.prog 94 #[.float .f64 x] w fun e w' => ∃ r, e = .returned (.float .f64 r) ∧ Fl .f64 r (fpart X n) ∧ Dr w w' := by
  have hc := fun W => run_convert_float_int (P := Try.prog) W 47 2 .f64 .i64 x n s_f64 Try.underlying2 hn
  have hi : Fl .f64 (floatOfInt .f64 n) (fl .f64 (floatOfInt .f64 n)) := ⟨rfl, by unfold floatOfInt FloatKind.nearest FloatKind.encode; exact FloatKind.f64.format.write_lt _⟩
  go_enter Try.func94, Try.ntmps94
  go_wp2_with ((apply upon_fop rfl; (first | assumption | exact Fl.const (of_decide_eq_true (by kernel_rfl))); (first | assumption | exact Fl.const (of_decide_eq_true (by kernel_rfl))); intro r n hr))
  · go_tidy
    rename_i r0 _ hr0 ht
    go_ret
    exact ⟨r, rfl, by rw [fpart_lt hr0 ht]; exact hr, _, rfl⟩
  · go_tidy
    rename_i ht
    go_ret
    exact ⟨r, rfl, by rw [fpart_ge hr ht]; exact hr, _, rfl⟩
set_option maxRecDepth 20000 in
set_option maxHeartbeats 1000000 in
theorem c_sineOf {x : Nat} {X : Option Nat} (h : Fl .f64 x X) (n : Int) (hn : floatToIntVal .f64 x .i64 = some n) (w : World) :
    Calls Try.prog 82 #[.float .f64 x] w fun e w' => ∃ r, e = .returned (.float .f64 r) ∧ Fl .f64 r (fsin (fpart X n)) ∧ Dr w w' := by
  go_enter Try.func82, Try.ntmps82
  go_upto_if 13 with (go_at_call 94; refine (c_partOfTurn h n hn _).mono ?_; rintro e w' ⟨r0, rfl, hr0, m0, rfl⟩)
  have hb : (FloatKind.f64.format.order r0 4602678819172646912 == some .gt || FloatKind.f64.format.order r0 4602678819172646912 == some .eq) = fge (fpart X n) kHalf := by
    rw [hr0.order (flK (by omega))]; rfl
  generalize hF : fpart X n = F at *
  rw [hb]
  clear hb
  generalize hB : fge F kHalf = below at *
  go_cut [3] (fun s wx => ∃ r m, s = .float .f64 r ∧ Fl .f64 r (fless F) ∧ wx = w.drewN m)
  case first =>
    cases below
    · go_wp2_with ((apply upon_fop rfl; (first | assumption | exact Fl.const (of_decide_eq_true (by kernel_rfl))); (first | assumption | exact Fl.const (of_decide_eq_true (by kernel_rfl))); intro r n hr))
      go_meet
      exact ⟨r0, m0, rfl, by unfold fless; rw [hB]; exact hr0, rfl⟩
    · go_wp2_with ((apply upon_fop rfl; (first | assumption | exact Fl.const (of_decide_eq_true (by kernel_rfl))); (first | assumption | exact Fl.const (of_decide_eq_true (by kernel_rfl))); intro r n hr))
      go_meet
      exact ⟨r, _, rfl, by unfold fless; rw [hB]; exact hr, rfl⟩
  case rest =>
    obtain ⟨r1, m1, rfl, hr1, rfl⟩ := hcut
    clear hr0 r0
    go_upto_if 17 with (fail)
    have hb : (FloatKind.f64.format.order r1 4598175219545276416 == some .gt) = fgt (fless F) kQuarter := by
      rw [hr1.order (flK (by omega))]; rfl
    rw [hb]
    clear hb
    generalize hG : fgt (fless F) kQuarter = over at *
    go_cut [3] (fun s wx => ∃ r m, s = .float .f64 r ∧ Fl .f64 r (ffoldt (fless F)) ∧ wx = w.drewN m)
    case first =>
      cases over
      · go_wp2_with ((apply upon_fop rfl; (first | assumption | exact Fl.const (of_decide_eq_true (by kernel_rfl))); (first | assumption | exact Fl.const (of_decide_eq_true (by kernel_rfl))); intro r n hr))
        go_meet
        exact ⟨r1, m1, rfl, by unfold ffoldt; rw [hG]; exact hr1, rfl⟩
      · go_wp2_with ((apply upon_fop rfl; (first | assumption | exact Fl.const (of_decide_eq_true (by kernel_rfl))); (first | assumption | exact Fl.const (of_decide_eq_true (by kernel_rfl))); intro r n hr))
        go_meet
        exact ⟨r, _, rfl, by unfold ffoldt; rw [hG]; exact hr, rfl⟩
    case rest =>
      obtain ⟨r2, m2, rfl, hr2, rfl⟩ := hcut
      clear hr1 r1
      go_wp2_with (go_in)
      (apply upon_fop rfl; (first | assumption | exact Fl.const (of_decide_eq_true (by kernel_rfl))); (first | assumption | exact Fl.const (of_decide_eq_true (by kernel_rfl))))
      intro z nz hz
      generalize hZ : fop .mul .f64 (ffoldt (fless F)) kTurn = Z
      have hz' : Fl .f64 z Z := by rw [← hZ]; exact hz
      clear hz
      go_wp2_with (go_in)
      (apply upon_fop rfl; (first | assumption | exact Fl.const (of_decide_eq_true (by kernel_rfl))); (first | assumption | exact Fl.const (of_decide_eq_true (by kernel_rfl))))
      intro u nu hu
      generalize hU : fop .mul .f64 Z Z = U at *
      go_wp2_with (fail)
      go_loopw [7, 8] (fun p k wr => ∃ j pb kb : Nat, j ≤ 8 ∧ p = .float .f64 pb ∧ k = .float .f64 kb ∧ Fl .f64 pb (fpoly U j) ∧ Fl .f64 kb (kw (8 - j)) ∧ Dr w wr) (fun _ k _ => cnt k)
      case atStart => exact ⟨0, _, _, by omega, rfl, rfl, flK (by omega), ⟨by decide +kernel, by decide +kernel⟩, _, rfl⟩
      case round =>
        obtain ⟨j, pb, kb, hj, rfl, rfl, hp, hk, m, rfl⟩ := hrel
        have hge : (FloatKind.f64.format.order kb 4607182418800017408 == some .gt || FloatKind.f64.format.order kb 4607182418800017408 == some .eq) = fge (kw (8 - j)) k1 := by
          rw [hk.order (flK (by omega))]; rfl
        by_cases hlt : j < 8
        · have hc := kw_ge j hlt
          rw [hc] at hge
          clear hc
          go_wp2_with ((apply upon_fop rfl; (first | assumption | exact Fl.const (of_decide_eq_true (by kernel_rfl))); (first | assumption | exact Fl.const (of_decide_eq_true (by kernel_rfl))); intro r n hr))
          go_tidy
          rename_i rp np hrp
          refine ⟨⟨j + 1, _, _, by omega, rfl, rfl, ?_, ?_, _, rfl⟩, ?_⟩
          · show Fl .f64 _ (fop .sub .f64 k1 (fop .quo .f64 (fop .mul .f64 U (fpoly U j)) (fden (8 - j))))
            rw [← kw_den j hlt]
            exact hrp
          · rw [← kw_less j hlt]
            exact hr
          · have h1 : fl .f64 r = kw (8 - (j + 1)) := by rw [← kw_less j hlt]; exact hr.eq
            have h2 := hk.eq
            rw [kw_some _ (by omega)] at h1 h2
            rw [← (fl_some h1).1, ← (fl_some h2).1]
            exact cnt_less j hlt
        · have hj8 : j = 8 := by omega
          have hc := kw_end
          rw [hj8] at hge hp
          rw [hc] at hge
          clear hc
          cases below
          · go_wp2_with ((apply upon_fop rfl; (first | assumption | exact Fl.const (of_decide_eq_true (by kernel_rfl))); (first | assumption | exact Fl.const (of_decide_eq_true (by kernel_rfl))); intro r n hr))
            go_ret
            exact ⟨r, rfl, by rw [hF, fsin_eq hZ hU, hB]; exact hr, _, rfl⟩
          · go_wp2_with ((apply upon_fop rfl; (first | assumption | exact Fl.const (of_decide_eq_true (by kernel_rfl))); (first | assumption | exact Fl.const (of_decide_eq_true (by kernel_rfl))); intro r n hr))
            go_ret
            exact ⟨_, rfl, by rw [hF, fsin_eq hZ hU, hB]; exact fneg_fl hr, _, rfl⟩
theorem self_zero {X : Option Nat} {x d : Nat} (h : Fl .f64 x X) (hf : ffin .f64 X = true) (hd : Fl .f64 d (fop .sub .f64 X X)) : (FloatKind.f64.format.order d 0 != some .eq) = false := by
  have h1 := sub_self .f64 x
  rw [h.eq, hf] at h1
  rw [h1] at hd
  have h2 : ford .f64 (some 0) (fl .f64 0) = some .eq := by decide +kernel
  have h3 : FloatKind.f64.format.order d 0 = some .eq := by rw [hd.order (flK (by omega))]; exact h2
  rw [h3]; rfl

set_option maxRecDepth 20000 in
set_option maxHeartbeats 2000000 in
theorem c_l01SineWide {x : Nat} {X : Option Nat} (h : Fl .f64 x X) (n : Int) (hn : floatToIntVal .f64 x .i64 = some n) (hf : ffin .f64 X = true)
    (hfar1 : (FloatKind.f64.format.order x 4841369599423283200 == some .gt || FloatKind.f64.format.order x 4841369599423283200 == some .eq) = false)
    (hfar2 : (FloatKind.f64.format.order x 14064741636278059008 == some .lt || FloatKind.f64.format.order x 14064741636278059008 == some .eq) = false) (w : World) :
    Calls Try.prog 77 #[.float .f64 x] w fun e w' => ∃ r, e = .returned (.float .f64 r) ∧ Fl .f64 r (fsin (fpart X n)) ∧ Dr w w' := by
  have hc := fun W => run_convert_float_int (P := Try.prog) W 47 2 .f64 .i64 x n s_f64 Try.underlying2 hn
  have hi : Fl .f64 (floatOfInt .f64 n) (fl .f64 (floatOfInt .f64 n)) := ⟨rfl, by unfold floatOfInt FloatKind.nearest FloatKind.encode; exact FloatKind.f64.format.write_lt _⟩
  have Hf := Lib.hid hf
  clear hf
  go_enter Try.func77, Try.ntmps77
  go_wp2_with (fail)
  (apply upon_fop rfl; (first | assumption | exact Fl.const (of_decide_eq_true (by kernel_rfl))); (first | assumption | exact Fl.const (of_decide_eq_true (by kernel_rfl))))
  intro d nd hd
  have hz := self_zero h Hf.out hd
  clear hd
  go_wp2_with (fail)
  (apply upon_fop rfl; (first | assumption | exact Fl.const (of_decide_eq_true (by kernel_rfl))); (first | assumption | exact Fl.const (of_decide_eq_true (by kernel_rfl))))
  intro g ng hg
  go_upto_if 26 with (fail)
  clear hc hz hfar1 hfar2
  have hb : (FloatKind.f64.format.order g 0 == some .lt) = flt (fop .sub .f64 X (fl .f64 (floatOfInt .f64 n))) (fl .f64 0) := by
    rw [hg.order (flK (by omega))]; rfl
  rw [hb]
  clear hb
  generalize hL : flt (fop .sub .f64 X (fl .f64 (floatOfInt .f64 n))) (fl .f64 0) = less at *
  go_cut [3] (fun s wx => ∃ r m, s = .float .f64 r ∧ Fl .f64 r (fpart X n) ∧ wx = w.drewN m)
  case first =>
    cases less
    · go_wp2_with ((apply upon_fop rfl; (first | assumption | exact Fl.const (of_decide_eq_true (by kernel_rfl))); (first | assumption | exact Fl.const (of_decide_eq_true (by kernel_rfl))); intro r n hr))
      go_meet
      exact ⟨g, _, rfl, by unfold fpart; simp only [hL, Bool.false_eq_true, if_false]; exact hg, rfl⟩
    · go_wp2_with ((apply upon_fop rfl; (first | assumption | exact Fl.const (of_decide_eq_true (by kernel_rfl))); (first | assumption | exact Fl.const (of_decide_eq_true (by kernel_rfl))); intro r n hr))
      go_meet
      exact ⟨r, _, rfl, by unfold fpart; simp only [hL, if_true]; exact hr, rfl⟩
  case rest =>
  obtain ⟨r0, m0, rfl, hr0, rfl⟩ := hcut
  clear hg g hL less hi
  go_upto_if 31 with (fail)
  have hb : (FloatKind.f64.format.order r0 4602678819172646912 == some .gt || FloatKind.f64.format.order r0 4602678819172646912 == some .eq) = fge (fpart X n) kHalf := by
    rw [hr0.order (flK (by omega))]; rfl
  generalize hF : fpart X n = F at *
  rw [hb]
  clear hb
  generalize hB : fge F kHalf = below at *
  go_cut [3] (fun s wx => ∃ r m, s = .float .f64 r ∧ Fl .f64 r (fless F) ∧ wx = w.drewN m)
  case first =>
    cases below
    · go_wp2_with ((apply upon_fop rfl; (first | assumption | exact Fl.const (of_decide_eq_true (by kernel_rfl))); (first | assumption | exact Fl.const (of_decide_eq_true (by kernel_rfl))); intro r n hr))
      go_meet
      exact ⟨r0, m0, rfl, by unfold fless; rw [hB]; exact hr0, rfl⟩
    · go_wp2_with ((apply upon_fop rfl; (first | assumption | exact Fl.const (of_decide_eq_true (by kernel_rfl))); (first | assumption | exact Fl.const (of_decide_eq_true (by kernel_rfl))); intro r n hr))
      go_meet
      exact ⟨r, _, rfl, by unfold fless; rw [hB]; exact hr, rfl⟩
  case rest =>
  obtain ⟨r1, m1, rfl, hr1, rfl⟩ := hcut
  clear hr0 r0
  go_upto_if 35 with (fail)
  have hb : (FloatKind.f64.format.order r1 4598175219545276416 == some .gt) = fgt (fless F) kQuarter := by
    rw [hr1.order (flK (by omega))]; rfl
  rw [hb]
  clear hb
  generalize hG : fgt (fless F) kQuarter = over at *
  go_cut [3] (fun s wx => ∃ r m, s = .float .f64 r ∧ Fl .f64 r (ffoldt (fless F)) ∧ wx = w.drewN m)
  case first =>
    cases over
    · go_wp2_with ((apply upon_fop rfl; (first | assumption | exact Fl.const (of_decide_eq_true (by kernel_rfl))); (first | assumption | exact Fl.const (of_decide_eq_true (by kernel_rfl))); intro r n hr))
      go_meet
      exact ⟨r1, m1, rfl, by unfold ffoldt; rw [hG]; exact hr1, rfl⟩
    · go_wp2_with ((apply upon_fop rfl; (first | assumption | exact Fl.const (of_decide_eq_true (by kernel_rfl))); (first | assumption | exact Fl.const (of_decide_eq_true (by kernel_rfl))); intro r n hr))
      go_meet
      exact ⟨r, _, rfl, by unfold ffoldt; rw [hG]; exact hr, rfl⟩
  case rest =>
  obtain ⟨r2, m2, rfl, hr2, rfl⟩ := hcut
  clear hr1 r1
  go_wp2_with (fail)
  (apply upon_fop rfl; (first | assumption | exact Fl.const (of_decide_eq_true (by kernel_rfl))); (first | assumption | exact Fl.const (of_decide_eq_true (by kernel_rfl))))
  intro z nz hz
  generalize hZ : fop .mul .f64 (ffoldt (fless F)) kTurn = Z
  have hz' : Fl .f64 z Z := by rw [← hZ]; exact hz
  clear hz
  go_wp2_with (fail)
  (apply upon_fop rfl; (first | assumption | exact Fl.const (of_decide_eq_true (by kernel_rfl))); (first | assumption | exact Fl.const (of_decide_eq_true (by kernel_rfl))))
  intro u nu hu
  generalize hU : fop .mul .f64 Z Z = U at *
  go_wp2_with (fail)
  go_loopw [7, 8] (fun p k wr => ∃ j pb : Nat, j ≤ 8 ∧ p = .float .f64 pb ∧ k = .int .i64 ((8 : Int) - (j : Int)) ∧ Fl .f64 pb (fpoly U j) ∧ Dr w wr) (fun _ k _ => (intOf k).toNat)
  case atStart => exact ⟨0, _, by omega, rfl, rfl, flK (by omega), _, rfl⟩
  case round =>
    obtain ⟨j, pb, hj, rfl, rfl, hp, m, rfl⟩ := hrel
    by_cases hlt : j < 8
    · have hj8 : j = 0 ∨ j = 1 ∨ j = 2 ∨ j = 3 ∨ j = 4 ∨ j = 5 ∨ j = 6 ∨ j = 7 := by omega
      rcases hj8 with rfl | rfl | rfl | rfl | rfl | rfl | rfl | rfl
      all_goals
        go_wp2_with ((apply upon_fop rfl; (first | assumption | exact Fl.const (of_decide_eq_true (by kernel_rfl))); (first | assumption | exact Fl.const (of_decide_eq_true (by kernel_rfl))); intro r n hr))
        exact ⟨⟨_ + 1, _, by omega, rfl, by go_num, hr, _, rfl⟩, by simp [intOf]⟩
    · have hj8 : j = 8 := by omega
      subst hj8
      cases below
      · go_wp2_with ((apply upon_fop rfl; (first | assumption | exact Fl.const (of_decide_eq_true (by kernel_rfl))); (first | assumption | exact Fl.const (of_decide_eq_true (by kernel_rfl))); intro r n hr))
        go_ret
        exact ⟨r, rfl, by rw [hF, fsin_eq hZ hU, hB]; exact hr, _, rfl⟩
      · go_wp2_with ((apply upon_fop rfl; (first | assumption | exact Fl.const (of_decide_eq_true (by kernel_rfl))); (first | assumption | exact Fl.const (of_decide_eq_true (by kernel_rfl))); intro r n hr))
        go_ret
        exact ⟨_, rfl, by rw [hF, fsin_eq hZ hU, hB]; exact fneg_fl hr, _, rfl⟩
end Go.Proofs.Ytcjddnkebdjhoaa
