/- Contracts: a list between its numbers, how far a correction stretches, on both sides. Condition: the list is read. -/
import Derived.Test.YtceldjkgddbfaaaWc
namespace Go.Proofs.Ytceldjkgddbfaaa
open Go.RowKit Ieee

/-- How far a correction stretches. -/
def fstretch (T P V : Option Nat) : Option Nat := fop .sub .f32 (fop .quo .f32 (fcurve T P V) T) fu
def okStretch (T P V : Option Nat) : Bool := fabove T && (ffin .f32 P && fabove V)
def RetY (w : World) (e : Ending) (w' : World) (X : Option Nat) (ok : Bool) : Prop := ∃ r, e = .returned (.tuple #[.float .f32 r, .bool ok]) ∧ Fl .f32 r X ∧ Ext w w'
def tellY (ok : Bool) (X : Option Nat) : Option Nat := if ok then numX X else fz
def tellB (ok : Bool) (X : Option Nat) : Bool := ok && ffin .f32 X
theorem tell_no {ok : Bool} (h : ok = false) (X : Option Nat) : tellY ok X = fz ∧ tellB ok X = false := by subst h; exact ⟨rfl, rfl⟩
theorem tell_yes {ok : Bool} (h : ok = true) (X : Option Nat) : tellY ok X = numX X ∧ tellB ok X = ffin .f32 X := by subst h; exact ⟨rfl, rfl⟩
set_option maxRecDepth 20000 in
set_option maxHeartbeats 8000000 in
theorem c_l04Stretch {w : World} {t p v : Nat} {T P V : Option Nat} (ft : Fl .f32 t T) (fp : Fl .f32 p P) (fv : Fl .f32 v V) :
    Calls Try.prog 79 #[.float .f32 t, .float .f32 p, .float .f32 v] w fun e w' => ∃ r, e = .returned (.tuple #[.float .f32 r, .bool (ffin .f32 (fstretch T P V))]) ∧ Fl .f32 r (numX (fstretch T P V)) ∧ Dr w w' := by
  go_enter Try.func79, Try.ntmps79
  go_wp2_with (first | (go_at_call 68; refine Calls.mono (c_l04Curve ft fp fv _) ?_; rintro e w4 ⟨r4, rfl, hr4, n4, rfl⟩) | (apply upon_fop rfl; (exact hr4); (exact ft); intro r5 n5 hr5) | (apply upon_fop rfl; (exact hr5); (exact fl_fu); intro r6 n6 hr6) | (go_at_call 108; refine Calls.mono (c_l02Number hr6 _) ?_; rintro e w7 ⟨r7, rfl, hr7, n7, rfl⟩))
  go_ret2
  exact ⟨_, rfl, hr7, _, rfl⟩
set_option maxRecDepth 20000 in
set_option maxHeartbeats 8000000 in
theorem c_impl_StretchAt {w : World} {t p v : Nat} {T P V : Option Nat} (ft : Fl .f32 t T) (fp : Fl .f32 p P) (fv : Fl .f32 v V) :
    Calls Try.prog 109 #[.float .f32 t, .float .f32 p, .float .f32 v] w fun e w' => RetY w e w' (tellY (okStretch T P V) (fstretch T P V)) (tellB (okStretch T P V) (fstretch T P V)) := by
  cases hA : fabove T
  · obtain ⟨e1, e2⟩ := tell_no (show okStretch T P V = false by unfold okStretch; rw [hA]; rfl) (fstretch T P V)
    rw [e1, e2]
    go_enter Try.func109, Try.ntmps109
    go_wp2_with (first | (go_at_call 71; refine Calls.mono (c_isPositive ft) ?_; rw [hA]; rintro e w1 ⟨rfl, n1, rfl⟩))
    go_ret2
    exact ⟨_, rfl, fl_fz, (by repeat (first | assumption | exact Ext.refl _ | apply Ext.drewN | apply Ext.drew | apply Ext.alloc | (refine Ext.trans ?_ (by assumption)) | (refine Ext.set ?_ (by dsimp only; omega) _)))⟩
  cases hB : ffin .f32 P
  · obtain ⟨e1, e2⟩ := tell_no (show okStretch T P V = false by unfold okStretch; rw [hB]; simp) (fstretch T P V)
    rw [e1, e2]
    go_enter Try.func109, Try.ntmps109
    go_wp2_with (first | (go_at_call 71; refine Calls.mono (c_isPositive ft) ?_; rw [hA]; rintro e w1 ⟨rfl, n1, rfl⟩) | (go_at_call 94; refine Calls.mono (c_impl_IsFinite fp _) ?_; rw [hB]; rintro e w1 ⟨rfl, n2, rfl⟩))
    go_ret2
    exact ⟨_, rfl, fl_fz, (by repeat (first | assumption | exact Ext.refl _ | apply Ext.drewN | apply Ext.drew | apply Ext.alloc | (refine Ext.trans ?_ (by assumption)) | (refine Ext.set ?_ (by dsimp only; omega) _)))⟩
  cases hC : fabove V
  · obtain ⟨e1, e2⟩ := tell_no (show okStretch T P V = false by unfold okStretch; rw [hC]; simp) (fstretch T P V)
    rw [e1, e2]
    go_enter Try.func109, Try.ntmps109
    go_wp2_with (first | (go_at_call 71; refine Calls.mono (c_isPositive ft) ?_; rw [hA]; rintro e w1 ⟨rfl, n1, rfl⟩) | (go_at_call 94; refine Calls.mono (c_impl_IsFinite fp _) ?_; rw [hB]; rintro e w1 ⟨rfl, n2, rfl⟩) | (go_at_call 71; refine Calls.mono (c_isPositive fv) ?_; rw [hC]; rintro e w1 ⟨rfl, n3, rfl⟩))
    go_ret2
    exact ⟨_, rfl, fl_fz, (by repeat (first | assumption | exact Ext.refl _ | apply Ext.drewN | apply Ext.drew | apply Ext.alloc | (refine Ext.trans ?_ (by assumption)) | (refine Ext.set ?_ (by dsimp only; omega) _)))⟩
  obtain ⟨e1, e2⟩ := tell_yes (show okStretch T P V = true by unfold okStretch; rw [hA, hB, hC]; rfl) (fstretch T P V)
  rw [e1, e2]
  go_enter Try.func109, Try.ntmps109
  go_wp2_with (first | (go_at_call 71; refine Calls.mono (c_isPositive ft) ?_; rw [hA]; rintro e w1 ⟨rfl, n1, rfl⟩) | (go_at_call 94; refine Calls.mono (c_impl_IsFinite fp _) ?_; rw [hB]; rintro e w1 ⟨rfl, n2, rfl⟩) | (go_at_call 71; refine Calls.mono (c_isPositive fv) ?_; rw [hC]; rintro e w1 ⟨rfl, n3, rfl⟩) | (go_at_call 73; refine Calls.mono (c_curveOf fp fv) ?_; rintro e w3 ⟨g, q, rfl, hgl, hgh, hgc, hgq, hx3⟩) | (go_at_call 99; refine Calls.mono (c_curve1 hgc hgq ft) ?_; rintro e w4 ⟨r4, rfl, hr4, n4, rfl⟩) | (apply upon_fop rfl; (exact hr4); (exact ft); intro r5 n5 hr5) | (apply upon_fop rfl; (exact hr5); (exact fl_fu); intro r6 n6 hr6) | (go_at_call 128; refine Calls.mono (c_finiteNumber hr6 _) ?_; rintro e w7 ⟨r7, rfl, hr7, n7, rfl⟩))
  go_ret2
  exact ⟨_, rfl, hr7, (by repeat (first | assumption | exact Ext.refl _ | apply Ext.drewN | apply Ext.drew | apply Ext.alloc | (refine Ext.trans ?_ (by assumption)) | (refine Ext.set ?_ (by dsimp only; omega) _)))⟩
end Go.Proofs.Ytceldjkgddbfaaa
