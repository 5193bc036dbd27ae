/- Contracts: waves along a boundary, on both sides. Condition: the ground is read. -/
import Derived.Test.YtkoiimjpalhgbabEc
import Derived.Test.YtkoiimjpalhgbabSt
import Derived.Test.YtkoiimjpalhgbabCo
import Derived.Deep.Cut
import Derived.Deep.CutRange
namespace Go.Proofs.Ytkoiimjpalhgbab
open Go.RowKit Ieee

theorem posF_of {r : Nat} {X : Option Nat} (h : Fl .f32 r X) (hp : fabove X = true) : PosF X := by
  obtain ⟨m, e, h1⟩ := pos_of h hp
  have hx := h.eq
  rw [h1.fl] at hx
  refine ⟨r, m, e, hx.symm, h1, ?_⟩
  rintro rfl
  obtain ⟨e0, h0⟩ := fin_zero
  have hg := h.ogt0
  unfold fabove at hp
  rw [Bool.and_eq_true] at hp
  rw [hp.2, h1.order h0] at hg
  have e1 : sv false 0 e = 0 := by unfold sv; simp
  have e2 : sv false 0 e0 = 0 := by unfold sv; simp
  rw [e1, e2] at hg
  cases hg
theorem PosF.nng {X : Option Nat} (h : PosF X) : Nng X := by
  obtain ⟨b, m, e, rfl, h1, _⟩ := h
  exact ⟨b, rfl, by rw [h1.read]; rfl⟩
theorem nng_rayW {L : List Ly} {P : Option Nat} (hP : Nng P) : ∀ j, (∀ i, i < j → PosF (L.getD i default).t ∧ PosF (L.getD i default).s) → rayC L P j = true → Nng (rayW L P j)
  | 0, _, _ => nng_zero
  | j + 1, hy, hc => by
    unfold rayC at hc
    rw [Bool.and_eq_true] at hc
    obtain ⟨ht, hs⟩ := hy j (Nat.lt_succ_self j)
    have h1 := nng_rayW hP j (fun i hi => hy i (by omega)) hc.1
    have hsin := sin1_of (nng_mul hP hs) hc.2
    exact nng_add h1 (nng_quo (nng_mulS ht hsin) (posF_cos hsin))
/-- The time of the wave so far. -/
def hT (L : List Ly) (P W0 : Option Nat) : Nat → Option Nat
  | 0 => W0
  | j + 1 => fop .add .f32 (hT L P W0 j) (fop .mul .f32 k32two (fop .quo .f32 (fop .mul .f32 (L.getD j default).t (fcos (fsine P (L.getD j default).s))) (L.getD j default).s))
def headP (L : List Ly) (S : Option Nat) (k : Nat) : Option Nat := fop .quo .f32 fu (fspeed L S (k + 1))
def hFar (L : List Ly) (P : Option Nat) (m : Nat) : Option Nat := fop .mul .f32 k32two (rayW L P m)
def okH (L : List Ly) (P W : Option Nat) (m : Nat) : Bool := rayC L P m && (!(fgt32 (hFar L P m) W) && ffin .f32 (hT L P (fop .mul .f32 W P) m))
theorem add_notfin {X Y : Option Nat} (h : ffin .f32 X = false) : ffin .f32 (fop .add .f32 X Y) = false := by
  cases X with
  | none => rfl
  | some x =>
    cases Y with
    | none => rfl
    | some y =>
      have e : fop .add .f32 (some x) (some y) = ((FloatKind.f32.format.read x).sum (FloatKind.f32.format.read y)).map FloatKind.f32.format.write := rfl
      have hf : ffin .f32 (some x) = !(FloatKind.f32.format.read x).isInfinity := rfl
      have hw : ∀ s : Bool, ffin .f32 (some (FloatKind.f32.format.write (.infinity s))) = false := by intro s; cases s <;> decide +kernel
      rw [e]
      rw [hf] at h
      cases hx : FloatKind.f32.format.read x with
      | nan u v => cases FloatKind.f32.format.read y <;> rfl
      | number u v z => rw [hx] at h; simp [Datum.isInfinity] at h
      | infinity s =>
        cases hy : FloatKind.f32.format.read y with
        | nan u v => rfl
        | number t v z => exact hw _
        | infinity t =>
          simp only [Datum.sum]
          split
          · exact hw _
          · rfl
theorem mul_notfin' {X Y : Option Nat} (h : ffin .f32 X = false) : ffin .f32 (fop .mul .f32 X Y) = false := by
  cases X with
  | none => rfl
  | some x =>
    cases Y with
    | none => rfl
    | some y =>
      have e : fop .mul .f32 (some x) (some y) = ((FloatKind.f32.format.read x).product (FloatKind.f32.format.read y)).map FloatKind.f32.format.write := rfl
      have hf : ffin .f32 (some x) = !(FloatKind.f32.format.read x).isInfinity := rfl
      have hw : ∀ s : Bool, ffin .f32 (some (FloatKind.f32.format.write (.infinity s))) = false := by intro s; cases s <;> decide +kernel
      rw [e]
      rw [hf] at h
      cases hx : FloatKind.f32.format.read x with
      | nan u v => cases FloatKind.f32.format.read y <;> rfl
      | number u v z => rw [hx] at h; simp [Datum.isInfinity] at h
      | infinity s =>
        cases hy : FloatKind.f32.format.read y with
        | nan u v => rfl
        | infinity t => simp only [Datum.product, Option.map_some]; exact hw _
        | number t v z =>
          simp only [Datum.product]
          split
          · rfl
          · simp only [Option.map_some]; exact hw _
theorem hT_notfin {L : List Ly} {P W0 : Option Nat} (h : ffin .f32 W0 = false) : ∀ j, ffin .f32 (hT L P W0 j) = false
  | 0 => h
  | j + 1 => add_notfin (hT_notfin h j)
theorem nng_shape {a : Nat} (ha : pl (FloatKind.f32.format.read a) = true) : (∃ m e, Fin_ .f32 a false m e) ∨ FloatKind.f32.format.read a = .infinity false := by
  rcases shape .f32 a with ⟨s, m, e, h1⟩ | ⟨s, hr, _, _⟩ | h1
  · left
    rw [h1.read] at ha
    obtain rfl : s = false := by simpa [pl] using ha
    exact ⟨m, e, h1⟩
  · right
    rw [hr] at ha
    obtain rfl : s = false := by simpa [pl] using ha
    exact hr
  · exfalso
    unfold fl FloatKind.decode at h1
    split at h1
    · rename_i hn; revert ha hn; cases FloatKind.f32.format.read a <;> simp [pl, Datum.isNaN]
    · cases h1
theorem nng_le {q : Nat} {X W : Option Nat} (fw : Fl .f32 q W) (hX : Nng X) (hW : ffin .f32 W = true) : (ford .f32 X W == some .lt || ford .f32 X W == some .eq) = !(fgt32 X W) := by
  obtain ⟨s, m, e, h1⟩ := fin_of fw hW
  have hx := fw.eq
  rw [h1.fl] at hx
  subst hx
  obtain ⟨a, rfl, ha⟩ := hX
  have e9 : ford .f32 (some a) (some q) = FloatKind.f32.format.order a q := rfl
  unfold fgt32
  rw [e9]
  rcases nng_shape ha with ⟨m', e', h2⟩ | h2
  · rw [h2.order h1]
    cases compare (sv false m' e') (sv s m e) <;> rfl
  · unfold Format.order
    rw [h2, h1.read]
    rfl
theorem nng_gt {q : Nat} {X W : Option Nat} (fw : Fl .f32 q W) (hX : Nng X) (hW : ffin .f32 W = true) (hneg : ge0 W = false) : fgt32 X W = true := by
  obtain ⟨s, m, e, h1⟩ := fin_of fw hW
  obtain ⟨e0, h0⟩ := fin_zero
  have hg := fw.oge0
  rw [hneg, h1.order h0] at hg
  have hx := fw.eq
  rw [h1.fl] at hx
  subst hx
  obtain ⟨a, rfl, ha⟩ := hX
  have e9 : ford .f32 (some a) (some q) = FloatKind.f32.format.order a q := rfl
  have key : ∀ x y : Int, compare x y = if x < y then .lt else if x = y then .eq else .gt := fun x y => rfl
  have e2 : sv false 0 e0 = 0 := by unfold sv; simp
  rw [e2, key] at hg
  unfold fgt32
  rw [e9]
  have hlt : sv s m e < 0 := by
    by_cases c1 : sv s m e < 0
    · exact c1
    · exfalso
      rw [if_neg c1] at hg
      by_cases c2 : sv s m e = 0
      · rw [if_pos c2] at hg; cases hg
      · rw [if_neg c2] at hg; cases hg
  rcases nng_shape ha with ⟨m', e', h2⟩ | h2
  · rw [h2.order h1, key]
    have hp : 0 ≤ sv false m' e' := by unfold sv; simp only [Bool.false_eq_true, if_false]; exact Int.natCast_nonneg _
    rw [if_neg (by omega), if_neg (by omega)]; rfl
  · unfold Format.order
    rw [h2, h1.read]
    rfl
/-- Behind a way that is none, no wave comes. -/
theorem okH_no {q : Nat} {L : List Ly} {P W : Option Nat} {m : Nat} (fw : Fl .f32 q W) (hP : Nng P) (hy : ∀ i, i < m → PosF (L.getD i default).t ∧ PosF (L.getD i default).s) (hW : fway W = false) : okH L P W m = false := by
  unfold okH
  cases hc : rayC L P m
  · rfl
  · rw [Bool.true_and]
    cases hf : ffin .f32 W
    · rw [hT_notfin (mul_notfin' hf)]; simp
    · unfold fway at hW
      rw [hf, Bool.true_and] at hW
      rw [show fgt32 (hFar L P m) W = true from nng_gt fw (nng_twice (nng_rayW hP m hy hc)) hf hW]; rfl

set_option linter.unusedSimpArgs false in
set_option maxRecDepth 20000 in
set_option maxHeartbeats 4000000 in
theorem c_l02Head {w : World} {b n c s d k p : Nat} {A : Option Addr} {L : List Ly} {S W : Option Nat} (hp : GpAt w b A n c s d) (h : RdL w A n L) (fs : Fl .f32 s S) (fp : Fl .f32 p W) (hk : k + 1 ≤ n) (hn : n ≤ 1048576) (hW : ffin .f32 W = true)
    (hP : Nng (headP L S k)) (hy : ∀ i, i < k + 1 → PosF (L.getD i default).t ∧ PosF (L.getD i default).s) :
    Calls Try.prog 73 #[.pointer (some ⟨b, 0, none⟩), .int .i64 (k : Int), .float .f32 p] w fun e w' => ∃ r, e = .returned (.tuple #[.float .f32 r, .bool (okH L (headP L S k) W (k + 1))]) ∧ Fl .f32 r (giveX (okH L (headP L S k) W (k + 1)) (hT L (headP L S k) (fop .mul .f32 W (headP L S k)) (k + 1))) ∧ Dr w w' := by
  have hl := Lib.hid h.len
  have p0 := hp.c0
  have hsp := c_l02Speed (k := k + 1) hp h fs (by omega) hn
  have hcast : ((k + 1 : Nat) : Int) = (k : Int) + 1 := by omega
  rw [hcast] at hsp
  have hPd : headP L S k = fop .quo .f32 fu (fspeed L S (k + 1)) := rfl
  generalize headP L S k = P at hP hPd ⊢
  have HPd := Lib.hid hPd
  have HRW := Lib.hid (fun hc => nng_twice (nng_rayW hP (k + 1) hy hc))
  clear hPd hcast
  go_enter Try.func73, Try.ntmps73
  go_wp2_with (first | (go_at_call 109; refine Calls.mono hsp ?_; rintro e w1 ⟨r1, rfl, hr1, hww⟩; obtain rfl := hww.symm) | (apply upon_fop rfl; (exact fl_fu); (exact hr1); intro r2 n2 hr2; rw [← HPd.out] at hr2) | (apply upon_fop rfl; (exact fp); (exact hr2); intro r3 n3 hr3))
  go_loopw [9, 10, 11] (fun tm wy i wr => ∃ j r q : Nat, j ≤ k + 1 ∧ i = .int .i64 j ∧ tm = .float .f32 r ∧ Fl .f32 r (hT L P (fop .mul .f32 W P) j) ∧ wy = .float .f32 q ∧ Fl .f32 q (rayW L P j) ∧ rayC L P j = true ∧ Dr w wr) (fun _ _ i _ => k + 1 - (intOf i).toNat)
  case atStart => exact ⟨0, r3, 0, Nat.zero_le _, rfl, rfl, hr3, rfl, fl_fz, rfl, _, rfl⟩
  case round =>
    obtain ⟨j, r, q, hj, rfl, rfl, hr, rfl, hq, hc, m, rfl⟩ := hrel
    have HC := Lib.hid hc
    clear hc
    by_cases hlt : j < k + 1
    · obtain ⟨b', off, s0, s1, s2, s3, rfl, hb, hyy⟩ := h.cell (k := j) (by omega)
      have hcos : ∀ Wd, Ext w Wd → Calls Try.prog 100 #[.pointer (some ⟨b, 0, none⟩), .int .i64 (j : Int), .float .f32 r2] Wd fun e w' => ∃ r, e = .returned (.tuple #[.float .f32 r, .bool (lt1 (fsine P (L.getD j default).s))]) ∧ Fl .f32 r (giveX (lt1 (fsine P (L.getD j default).s)) (fcos (fsine P (L.getD j default).s))) ∧ Dr Wd w' := fun Wd hx => by
        have := c_l02Cosine (k := j) (hp.ext hx) (h.ext hx) fs hr2 (by omega) hn
        rwa [fspeed_at (S := S) (by have := hl.out; omega)] at this
      have hsin : ∀ Wd, Ext w Wd → Calls Try.prog 101 #[.pointer (some ⟨b, 0, none⟩), .int .i64 (j : Int), .float .f32 r2] Wd fun e w' => ∃ r, e = .returned (.float .f32 r) ∧ Fl .f32 r (fsine P (L.getD j default).s) ∧ Dr Wd w' := fun Wd hx => by
        have := c_l02Sine (k := j) (hp.ext hx) (h.ext hx) fs hr2 (by omega) hn
        rwa [fspeed_at (S := S) (by have := hl.out; omega)] at this
      have hT' : hT L P (fop .mul .f32 W P) (j + 1) = fop .add .f32 (hT L P (fop .mul .f32 W P) j) (fop .mul .f32 k32two (fop .quo .f32 (fop .mul .f32 (L.getD j default).t (fcos (fsine P (L.getD j default).s))) (L.getD j default).s)) := rfl
      have hW' : rayW L P (j + 1) = fop .add .f32 (rayW L P j) (fop .quo .f32 (fop .mul .f32 (L.getD j default).t (fsine P (L.getD j default).s)) (fcos (fsine P (L.getD j default).s))) := rfl
      have hC : rayC L P (j + 1) = (rayC L P j && lt1 (fsine P (L.getD j default).s)) := rfl
      have hno : lt1 (fsine P (L.getD j default).s) = false → okH L P W (k + 1) = false := fun hf => by unfold okH; rw [rayC_no hf (k + 1) hlt]; rfl
      generalize L.getD j default = y at hyy hcos hsin hT' hW' hC hno
      have HT := Lib.hid hT'
      have HW := Lib.hid hW'
      have HCC := Lib.hid hC
      have HNO := Lib.hid hno
      clear hT' hW' hC hno
      have hc0 := hyy.c0
      have hc1 := hyy.c1
      have q0 := hyy.f0
      have q1 := hyy.f1
      have n1 : (j : Int) ≤ (k : Int) := by omega
      have n2 : (j : Int) < (n : Int) := by omega
      cases hX : lt1 (fsine P y.s)
      · have hend := Lib.hid (HNO.out hX)
        go_wp2_with (go_at_call 100; refine Calls.mono (hcos _ (by repeat (first | assumption | exact Ext.refl _ | apply Ext.drewN | apply Ext.drew | apply Ext.alloc | (refine Ext.trans ?_ (by assumption)) | (refine Ext.set ?_ (by dsimp only; omega) _)))) ?_; rw [hX]; rintro e w1 ⟨r9, rfl, hr9, n9, rfl⟩)
        go_ret2
        exact ⟨0, by rw [hend.out]; rfl, by rw [hend.out]; exact fl_fz, _, rfl⟩
      · go_wp2_with (go_at_call 100; refine Calls.mono (hcos _ (by repeat (first | assumption | exact Ext.refl _ | apply Ext.drewN | apply Ext.drew | apply Ext.alloc | (refine Ext.trans ?_ (by assumption)) | (refine Ext.set ?_ (by dsimp only; omega) _)))) ?_; rw [hX]; rintro e w1 ⟨r9, rfl, hr9, n9, rfl⟩; simp only [giveX, if_true] at hr9)
        go_cut [9] from 23 to 69 (fun sx wx => ∃ r m, sx = .float .f32 r ∧ Fl .f32 r (hT L P (fop .mul .f32 W P) (j + 1)) ∧ wx = w.drewN m)
        case first =>
          go_region_with (first | (apply upon_fop rfl; (exact q0); (exact hr9); intro r4 n4 hr4) | (apply upon_fop rfl; (exact hr4); (exact q1); intro r5 n5 hr5) | (apply upon_fop rfl; (exact fl_two); (exact hr5); intro r6 n6 hr6) | (apply upon_fop rfl; (exact hr); (exact hr6); intro r7 n7 hr7; rw [← HT.out] at hr7))
          all_goals
            go_wp2_with (fail)
            go_meet
            exact ⟨r7, _, rfl, hr7, rfl⟩
        case rest =>
          obtain ⟨r7, m7, rfl, hr7, rfl⟩ := hcut
          go_wp2_with (fail)
          go_region_with (first | (go_at_call 101; refine Calls.mono (hsin _ (by repeat (first | assumption | exact Ext.refl _ | apply Ext.drewN | apply Ext.drew | apply Ext.alloc | (refine Ext.trans ?_ (by assumption)) | (refine Ext.set ?_ (by dsimp only; omega) _)))) ?_; rintro e w1 ⟨r8, rfl, hr8, n9, rfl⟩) | (apply upon_fop rfl; (exact q0); (exact hr8); intro r4 n4 hr4) | (apply upon_fop rfl; (exact hr4); (exact hr9); intro r5 n5 hr5) | (apply upon_fop rfl; (exact hq); (exact hr5); intro r6 n6 hr6; rw [← HW.out] at hr6))
          all_goals
            go_wp2_with (fail)
            exact ⟨⟨j + 1, r7, r6, by omega, by go_num, rfl, hr7, rfl, hr6, by rw [HCC.out, HC.out, hX]; rfl, _, rfl⟩, by simp [intOf]; omega⟩
    · have hjk : j = k + 1 := by omega
      subst hjk
      have n1 : ¬ ((k : Int) + 1 ≤ (k : Int)) := by omega
      have n2 : (k : Int) < ((k + 1 : Nat) : Int) := by omega
      have hle := nng_le fp (HRW.out HC.out) hW
      have hok : okH L P W (k + 1) = (!(fgt32 (fop .mul .f32 k32two (rayW L P (k + 1))) W) && ffin .f32 (hT L P (fop .mul .f32 W P) (k + 1))) := by unfold okH hFar; rw [HC.out]; rfl
      have HOK := Lib.hid hok
      clear hok
      cases hX : fgt32 (fop .mul .f32 k32two (rayW L P (k + 1))) W
      · rw [hX] at HOK hle
        go_wp2_with (first | (apply upon_fop rfl; (exact fl_two); (exact hq); intro r6 n6 hr6; have hle2 : (FloatKind.f32.format.order r6 p == some .lt || FloatKind.f32.format.order r6 p == some .eq) = true := (by rw [order_fl, hr6.eq, fp.eq]; exact hle)) | (go_at_call 67; refine Calls.mono (c_l02Number hr _) ?_; rintro e w2 ⟨r8, rfl, hr8, n8, rfl⟩))
        go_ret2
        exact ⟨r8, by rw [HOK.out]; rfl, by rw [HOK.out]; exact hr8, _, rfl⟩
      · rw [hX] at HOK hle
        go_wp2_with (apply upon_fop rfl; (exact fl_two); (exact hq); intro r6 n6 hr6; have hle2 : (FloatKind.f32.format.order r6 p == some .lt || FloatKind.f32.format.order r6 p == some .eq) = false := (by rw [order_fl, hr6.eq, fp.eq]; exact hle))
        go_ret2
        exact ⟨0, by rw [HOK.out]; rfl, by rw [HOK.out]; exact fl_fz, _, rfl⟩
set_option linter.unusedSimpArgs false in
set_option maxRecDepth 20000 in
set_option maxHeartbeats 4000000 in
theorem c_arrival {w : World} {m c v p : Nat} {A : Option Addr} {L : List Ly} {V P W : Option Nat} (h : RdL w A m L) (fv : Fl .f32 v V) (fp : Fl .f32 p W) (hm : m ≤ 1048576) (hP : Nng P) (hPd : P = fop .quo .f32 fu V) :
    Calls Try.prog 75 #[.agg #[.slice A m c, .float .f32 v], .float .f32 p] w fun e w' => ∃ r, e = .returned (.tuple #[.float .f32 r, .bool (okH L P W m)]) ∧ Fl .f32 r (giveX (okH L P W m) (hT L P (fop .mul .f32 W P) m)) ∧ Ext w w' := by
  have hge := nng_ge0 hP
  have HPd := Lib.hid hPd
  clear hPd
  go_enter Try.func75, Try.ntmps75
  go_wp2_with (first | (apply upon_fop rfl; (exact fl_fu); (exact fv); intro r2 n2 hr2; rw [← HPd.out] at hr2) | (go_at_call 82; refine Calls.mono (c_mulNumbers fp hr2 _) ?_; rintro e w1 ⟨r3, rfl, hr3, n3, rfl⟩))
  go_loopw [7, 8, 22] (fun tm wy i wr => ∃ j r q : Nat, j ≤ m ∧ i = .int .i64 j ∧ tm = .float .f32 r ∧ Fl .f32 r (hT L P (fop .mul .f32 W P) j) ∧ wy = .float .f32 q ∧ Fl .f32 q (rayW L P j) ∧ rayC L P j = true ∧ Ext w wr) (fun _ _ i _ => m - (intOf i).toNat)
  case atStart => exact ⟨0, r3, 0, Nat.zero_le _, rfl, rfl, hr3, rfl, fl_fz, rfl, (by repeat (first | assumption | exact Ext.refl _ | apply Ext.drewN | apply Ext.drew | apply Ext.alloc | (refine Ext.trans ?_ (by assumption)) | (refine Ext.set ?_ (by dsimp only; omega) _)))⟩
  case round =>
    obtain ⟨j, r, q, hj, rfl, rfl, hr, rfl, hq, hc, hx⟩ := hrel
    have HC := Lib.hid hc
    clear hc
    by_cases hlt : j < m
    · obtain ⟨b', off, s0, s1, s2, s3, rfl, hb, hyy⟩ := (h.ext hx).cell (k := j) hlt
      have hT' : hT L P (fop .mul .f32 W P) (j + 1) = fop .add .f32 (hT L P (fop .mul .f32 W P) j) (fop .mul .f32 k32two (fop .quo .f32 (fop .mul .f32 (L.getD j default).t (fcos (fsine P (L.getD j default).s))) (L.getD j default).s)) := rfl
      have hW' : rayW L P (j + 1) = fop .add .f32 (rayW L P j) (fop .quo .f32 (fop .mul .f32 (L.getD j default).t (fsine P (L.getD j default).s)) (fcos (fsine P (L.getD j default).s))) := rfl
      have hC : rayC L P (j + 1) = (rayC L P j && lt1 (fsine P (L.getD j default).s)) := rfl
      have hno : lt1 (fsine P (L.getD j default).s) = false → okH L P W m = false := fun hf => by unfold okH; rw [rayC_no hf m hlt]; rfl
      generalize L.getD j default = y at hyy hT' hW' hC hno
      have HT := Lib.hid hT'
      have HW := Lib.hid hW'
      have HCC := Lib.hid hC
      have HNO := Lib.hid hno
      clear hT' hW' hC hno
      have hc0 := hyy.c0
      have hc1 := hyy.c1
      have hc2 := hyy.c2
      have hc3 := hyy.c3
      have q0 := hyy.f0
      have q1 := hyy.f1
      have n2 : (j : Int) < (m : Int) := by omega
      cases hX : lt1 (fsine P y.s)
      · have hend := Lib.hid (HNO.out hX)
        go_wp2_with (go_at_call 104; refine Calls.mono (c_cosineOf q1 hr2 _) ?_; rw [hge, hX]; rintro e w1 ⟨r9, rfl, hr9, n9, rfl⟩)
        go_ret2
        exact ⟨0, by rw [hend.out]; rfl, by rw [hend.out]; exact fl_fz, (by repeat (first | assumption | exact Ext.refl _ | apply Ext.drewN | apply Ext.drew | apply Ext.alloc | (refine Ext.trans ?_ (by assumption)) | (refine Ext.set ?_ (by dsimp only; omega) _)))⟩
      · go_wp2_with (go_at_call 104; refine Calls.mono (c_cosineOf q1 hr2 _) ?_; rw [hge, hX]; rintro e w1 ⟨r9, rfl, hr9, n9, rfl⟩; simp only [giveX, Bool.and_self, if_true] at hr9)
        go_region_with (first | (go_at_call 82; refine Calls.mono (c_mulNumbers q0 hr9 _) ?_; rintro e w1 ⟨r4, rfl, hr4, n9, rfl⟩) | (apply upon_fop rfl; (exact hr4); (exact q1); intro r5 n5 hr5) | (go_at_call 82; refine Calls.mono (c_mulNumbers fl_two hr5 _) ?_; rintro e w1 ⟨r6, rfl, hr6, n9, rfl⟩) | (apply upon_fop rfl; (exact hr); (exact hr6); intro r7 n7 hr7; rw [← HT.out] at hr7))
        all_goals
          go_wp2_with (first | (go_at_call 105; refine Calls.mono (c_wayThrough q0 q1 hr2 hr9 _) ?_; rintro e w1 ⟨r8, rfl, hr8, hx8⟩) | (apply upon_fop rfl; (exact hq); (exact hr8); intro r10 n10 hr10; rw [← HW.out] at hr10))
          exact ⟨⟨j + 1, r7, r10, by omega, by go_num, rfl, hr7, rfl, hr10, by rw [HCC.out, HC.out, hX]; rfl, (by repeat (first | assumption | exact Ext.refl _ | apply Ext.drewN | apply Ext.drew | apply Ext.alloc | (refine Ext.trans ?_ (by assumption)) | (refine Ext.set ?_ (by dsimp only; omega) _)))⟩, by simp [intOf]; omega⟩
    · have hjm : j = m := by omega
      subst hjm
      have hok : okH L P W j = (!(fgt32 (fop .mul .f32 k32two (rayW L P j)) W) && ffin .f32 (hT L P (fop .mul .f32 W P) j)) := by unfold okH hFar; rw [HC.out]; rfl
      have HOK := Lib.hid hok
      clear hok
      cases hX : fgt32 (fop .mul .f32 k32two (rayW L P j)) W
      · rw [hX] at HOK
        go_wp2_with (first | (go_at_call 82; refine Calls.mono (c_mulNumbers fl_two hq _) ?_; rintro e w1 ⟨r6, rfl, hr6, n9, rfl⟩; have hgt := hr6.ogt fp; rw [hX] at hgt) | (go_at_call 71; refine Calls.mono (c_finiteNumber hr _) ?_; rintro e w2 ⟨r8, rfl, hr8, n8, rfl⟩))
        go_ret2
        exact ⟨r8, by rw [HOK.out]; rfl, by rw [HOK.out]; exact hr8, (by repeat (first | assumption | exact Ext.refl _ | apply Ext.drewN | apply Ext.drew | apply Ext.alloc | (refine Ext.trans ?_ (by assumption)) | (refine Ext.set ?_ (by dsimp only; omega) _)))⟩
      · rw [hX] at HOK
        go_wp2_with (go_at_call 82; refine Calls.mono (c_mulNumbers fl_two hq _) ?_; rintro e w1 ⟨r6, rfl, hr6, n9, rfl⟩; have hgt := hr6.ogt fp; rw [hX] at hgt)
        go_ret2
        exact ⟨0, by rw [HOK.out]; rfl, by rw [HOK.out]; exact fl_fz, (by repeat (first | assumption | exact Ext.refl _ | apply Ext.drewN | apply Ext.drew | apply Ext.alloc | (refine Ext.trans ?_ (by assumption)) | (refine Ext.set ?_ (by dsimp only; omega) _)))⟩
end Go.Proofs.Ytkoiimjpalhgbab
