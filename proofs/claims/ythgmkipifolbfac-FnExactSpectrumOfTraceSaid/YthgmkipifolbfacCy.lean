/- Contracts: complex numbers that are the same. No condition. -/
import Derived.Test.YthgmkipifolbfacCx
import Derived.Test.YthgmkipifolbfacC1
namespace Go.Proofs.Ythgmkipifolbfac
open Go.RowKit Ieee

theorem s_c64 : (Try.prog.underlying 23).isSome = true := by rw [Try.underlying23]; rfl
set_option maxRecDepth 20000 in
set_option maxHeartbeats 400000 in
theorem c_sameComplex {a b c d : Nat} {X Y : Option Nat} (ha : Fl .f64 a X) (hb : Fl .f64 b Y) (hc : Fl .f64 c X) (hd : Fl .f64 d Y) (w : World) :
    Calls Try.prog 17 #[.complex .f64 a b, .complex .f64 c d] w fun e w' => e = .returned (.bool true) ∧ Dr w w' := by
  go_enter Try.func17, Try.ntmps17
  go_wp2_with (go_at_call 88; refine Calls.mono (c_sameFloat (by assumption) (by assumption) _) ?_; rintro e w7 ⟨rfl, n3, rfl⟩)
  go_ret
  exact ⟨rfl, _, rfl⟩
end Go.Proofs.Ythgmkipifolbfac
