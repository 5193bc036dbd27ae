/- Contracts of functions of chapter 1 (numbers), each by a walk of its Go text. No condition but that floats are 32 or 64 bits. -/
import Derived.Test.YtfmhdnhaaohdjaaRows
import Derived.Test.YtfmhdnhaaohdjaaNum
namespace Go.Proofs.Ytfmhdnhaaohdjaa
open Go.RowKit Ieee

theorem retb {a b : Bool} (h : a = b) : Ending.returned (.bool a) = .returned (.bool b) := by rw [h]
theorem s_f32 : (Try.prog.underlying 83).isSome = true := by rw [Try.underlying83]; rfl
theorem s_f64 : (Try.prog.underlying 96).isSome = true := by rw [Try.underlying96]; rfl

theorem ofInt_i64 (a : Nat) (ha : a < 9223372036854775808) : (BitVec.ofInt 64 (a : Int)).toNat = a := by
  rw [BitVec.ofInt_natCast, BitVec.toNat_ofNat]; exact Nat.mod_eq_of_lt (by omega)
theorem i64_and_nat (a b : Nat) (ha : a < 9223372036854775808) (hb : b < 9223372036854775808) : bits .and .i64 (a : Int) (b : Int) = ((a &&& b : Nat) : Int) := by
  have hx : a &&& b < 2 ^ 63 := Nat.and_lt_two_pow _ (by omega)
  show IntKind.i64.wrap ((BitVec.ofInt 64 (a : Int) &&& BitVec.ofInt 64 (b : Int)).toNat : Int) = _
  rw [BitVec.toNat_and, ofInt_i64 a ha, ofInt_i64 b hb, IntKind.wrap_i64]
  omega


set_option maxRecDepth 20000 in
set_option maxHeartbeats 400000 in
theorem c_sameFloat {a b : Nat} {X : Option Nat} (ha : Fl .f64 a X) (hb : Fl .f64 b X) (w : World) :
    Calls Try.prog 84 #[.float .f64 a, .float .f64 b] w fun e w' => e = .returned (.bool true) ∧ Dr w w' := by
  cases X with
  | none =>
    have h1 := order_self_ne .f64 a
    have h2 := order_self_ne .f64 b
    rw [ha.eq] at h1
    rw [hb.eq] at h2
    go_enter Try.func84, Try.ntmps84
    go_wp2
    go_ret
    exact ⟨rfl, 0, rfl⟩
  | some c =>
    have h1 := order_self_ne .f64 a
    have h3 := order_self .f64 a
    have ha' := ha.eq
    obtain ⟨rfl, _⟩ := fl_some ha'
    obtain ⟨rfl, _⟩ := fl_some hb.eq
    rw [ha'] at h1 h3
    simp only [Option.isNone_some, Option.isSome_some] at h1 h3
    clear ha'
    cases h0 : (FloatKind.f64.format.order c 0 == some .eq) with
    | false =>
      go_enter Try.func84, Try.ntmps84
      go_wp2
      go_ret
      exact ⟨rfl, 0, rfl⟩
    | true =>
      go_enter Try.func84, Try.ntmps84
      go_wp2_with ((apply upon_fop rfl; (first | assumption | exact Fl.const (of_decide_eq_true (by kernel_rfl))); (first | assumption | exact Fl.const (of_decide_eq_true (by kernel_rfl))); intro r n hr))
      all_goals go_tidy
      go_ret
      rename_i r1 n1 h1
      have e : FloatKind.f64.format.order r1 0 = FloatKind.f64.format.order r 0 := by rw [order_fl, order_fl, h1.eq, hr.eq]
      exact ⟨by simp [e], _, rfl⟩
end Go.Proofs.Ytfmhdnhaaohdjaa
