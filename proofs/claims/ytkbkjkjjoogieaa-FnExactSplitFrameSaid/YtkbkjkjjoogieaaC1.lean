/- Contracts of functions of chapter 1 (numbers), each by a walk of its Go text. No condition but that floats are 32 or 64 bits. -/
import Derived.Test.YtkbkjkjjoogieaaRows
import Derived.Test.YtkbkjkjjoogieaaNum
namespace Go.Proofs.Ytkbkjkjjoogieaa
open Go.RowKit Ieee

theorem retb {a b : Bool} (h : a = b) : Ending.returned (.bool a) = .returned (.bool b) := by rw [h]
theorem s_f32 : (Try.prog.underlying 79).isSome = true := by rw [Try.underlying79]; rfl
theorem s_f64 : (Try.prog.underlying 86).isSome = true := by rw [Try.underlying86]; rfl

theorem ofInt_i64 (a : Nat) (ha : a < 9223372036854775808) : (BitVec.ofInt 64 (a : Int)).toNat = a := by
  rw [BitVec.ofInt_natCast, BitVec.toNat_ofNat]; exact Nat.mod_eq_of_lt (by omega)
theorem i64_and_nat (a b : Nat) (ha : a < 9223372036854775808) (hb : b < 9223372036854775808) : bits .and .i64 (a : Int) (b : Int) = ((a &&& b : Nat) : Int) := by
  have hx : a &&& b < 2 ^ 63 := Nat.and_lt_two_pow _ (by omega)
  show IntKind.i64.wrap ((BitVec.ofInt 64 (a : Int) &&& BitVec.ofInt 64 (b : Int)).toNat : Int) = _
  rw [BitVec.toNat_and, ofInt_i64 a ha, ofInt_i64 b hb, IntKind.wrap_i64]
  omega

@[go_sem] theorem x_Float32bits (b : Nat) (w : World) : (callFunc 147 #[.float .f32 b]).run Try.prog w = .ok (.value (.int .u32 b)) w := by
  rw [run_callFunc_extern Try.func147 (by kernel_rfl) (by kernel_rfl) (by kernel_rfl) (e := Extern.MathFloatBits.float32bits) (by kernel_rfl)]; rfl
@[go_sem] theorem x_Float64bits (b : Nat) (w : World) : (callFunc 136 #[.float .f64 b]).run Try.prog w = .ok (.value (.int .u64 b)) w := by
  rw [run_callFunc_extern Try.func136 (by kernel_rfl) (by kernel_rfl) (by kernel_rfl) (e := Extern.MathFloatBits.float64bits) (by kernel_rfl)]; rfl
@[go_sem] theorem x_Float64frombits (n : Int) (w : World) : (callFunc 135 #[.int .u64 n]).run Try.prog w = .ok (.value (.float .f64 n.toNat)) w := by
  rw [run_callFunc_extern Try.func135 (by kernel_rfl) (by kernel_rfl) (by kernel_rfl) (e := Extern.MathFloatBits.float64frombits) (by kernel_rfl)]; rfl

set_option maxRecDepth 20000 in
set_option maxHeartbeats 400000 in
theorem c_sameFloat {a b : Nat} {X : Option Nat} (ha : Fl .f64 a X) (hb : Fl .f64 b X) (w : World) :
    Calls Try.prog 72 #[.float .f64 a, .float .f64 b] w fun e w' => e = .returned (.bool true) ∧ Dr w w' := by
  cases X with
  | none =>
    have h1 := order_self_ne .f64 a
    have h2 := order_self_ne .f64 b
    rw [ha.eq] at h1
    rw [hb.eq] at h2
    go_enter Try.func72, Try.ntmps72
    go_wp2
    go_ret
    exact ⟨rfl, 0, rfl⟩
  | some c =>
    have h1 := order_self_ne .f64 a
    have h3 := order_self .f64 a
    have ha' := ha.eq
    obtain ⟨rfl, _⟩ := fl_some ha'
    obtain ⟨rfl, _⟩ := fl_some hb.eq
    rw [ha'] at h1 h3
    simp only [Option.isNone_some, Option.isSome_some] at h1 h3
    clear ha'
    cases h0 : (FloatKind.f64.format.order c 0 == some .eq) with
    | false =>
      go_enter Try.func72, Try.ntmps72
      go_wp2
      go_ret
      exact ⟨rfl, 0, rfl⟩
    | true =>
      go_enter Try.func72, Try.ntmps72
      go_wp2_with ((apply upon_fop rfl; (first | assumption | exact Fl.const (of_decide_eq_true (by kernel_rfl))); (first | assumption | exact Fl.const (of_decide_eq_true (by kernel_rfl))); intro r n hr))
      all_goals go_tidy
      go_ret
      rename_i r1 n1 h1
      have e : FloatKind.f64.format.order r1 0 = FloatKind.f64.format.order r 0 := by rw [order_fl, order_fl, h1.eq, hr.eq]
      exact ⟨by simp [e], _, rfl⟩
set_option maxRecDepth 20000 in
set_option maxHeartbeats 400000 in
theorem c_spec_l01Bits {b : Nat} {X : Option Nat} (h : Fl .f32 b X) (w : World) :
    Calls Try.prog 131 #[.float .f32 b] w fun e w' => e = .returned (.int .i64 (fbits X)) ∧ w = w' := by
  have hb : b < 4294967296 := h.lt
  have h0 := order_self_ne .f32 b
  rw [h.eq] at h0
  cases X with
  | none =>
    go_enter Try.func131, Try.ntmps131
    go_wp2
    go_ret
    exact ⟨rfl, rfl⟩
  | some c =>
    obtain ⟨rfl, _⟩ := fl_some h.eq
    go_enter Try.func131, Try.ntmps131
    go_wp2
    go_ret
    exact ⟨rfl, rfl⟩
set_option maxRecDepth 20000 in
set_option maxHeartbeats 400000 in
theorem c_impl_BitsOf {b : Nat} {X : Option Nat} (h : Fl .f32 b X) (w : World) :
    Calls Try.prog 132 #[.float .f32 b] w fun e w' => e = .returned (.int .i64 (fbits X)) ∧ w = w' := by
  have hb : b < 4294967296 := h.lt
  have h0 := order_self_ne .f32 b
  rw [h.eq] at h0
  cases X with
  | none =>
    go_enter Try.func132, Try.ntmps132
    go_wp2
    go_ret
    exact ⟨rfl, rfl⟩
  | some c =>
    obtain ⟨rfl, _⟩ := fl_some h.eq
    go_enter Try.func132, Try.ntmps132
    go_wp2
    go_ret
    exact ⟨rfl, rfl⟩
set_option maxRecDepth 20000 in
set_option maxHeartbeats 400000 in
theorem c_Abs (b : Nat) (hb : b < 18446744073709551616) (w : World) :
    Calls Try.prog 111 #[.float .f64 b] w fun e w' => e = .returned (.float .f64 (b % 9223372036854775808)) ∧ w = w' := by
  have h1 : bits .andNot .u64 (b : Int) 9223372036854775808 = ((b % 9223372036854775808 : Nat) : Int) := by
    have h := Go.u64_andNot_nat b 9223372036854775808 hb (by omega)
    rw [word_mod] at h
    exact h
  go_enter Try.func111, Try.ntmps111
  go_wp2
  go_ret
  exact ⟨rfl, rfl⟩
set_option maxRecDepth 20000 in
set_option maxHeartbeats 400000 in
theorem c_isFiniteLong {b : Nat} {X : Option Nat} (h : Fl .f64 b X) (w : World) :
    Calls Try.prog 145 #[.float .f64 b] w fun e w' => e = .returned (.bool (ffin .f64 X)) ∧ w = w' := by
  have h0 := order_self_ne .f64 b
  rw [h.eq] at h0
  cases X with
  | none =>
    go_enter Try.func145, Try.ntmps145
    go_wp2
    go_ret
    exact ⟨rfl, rfl⟩
  | some c =>
    have hx := h.eq
    have hg := abs_gt_max b (by rw [hx]; simp)
    rw [hx] at hg
    have hb := h.lt
    cases hf : ffin .f64 (some c) with
    | true =>
      rw [hf] at hg
      clear hx hf
      go_enter Try.func145, Try.ntmps145
      go_wp2_with (first | (go_at_call 111; refine (c_Abs _ hb _).mono ?_; rintro e w' ⟨rfl, rfl⟩) | go_in)
      go_ret
      exact ⟨rfl, rfl⟩
    | false =>
      rw [hf] at hg
      clear hx hf
      go_enter Try.func145, Try.ntmps145
      go_wp2_with (first | (go_at_call 111; refine (c_Abs _ hb _).mono ?_; rintro e w' ⟨rfl, rfl⟩) | go_in)
      go_ret
      exact ⟨rfl, rfl⟩
set_option maxRecDepth 20000 in
set_option maxHeartbeats 400000 in
theorem c_impl_IsFinite {b : Nat} {X : Option Nat} (h : Fl .f32 b X) (w : World) :
    Calls Try.prog 125 #[.float .f32 b] w fun e w' => e = .returned (.bool (ffin .f32 X)) ∧ Dr w w' := by
  have hw := ffin_wide h
  go_enter Try.func125, Try.ntmps125
  go_wp2_with (first | (apply upon_wide s_f32 Try.underlying86; (first | assumption | exact Fl.const (of_decide_eq_true (by kernel_rfl))); intro r n hr) | (go_at_call 145; refine (c_isFiniteLong hr _).mono ?_; rintro e w' ⟨rfl, rfl⟩))
  go_ret
  exact ⟨rfl, _, rfl⟩
set_option maxRecDepth 20000 in
set_option maxHeartbeats 400000 in
theorem c_l01Finite {b : Nat} {X : Option Nat} (h : Fl .f32 b X) (w : World) :
    Calls Try.prog 122 #[.float .f32 b] w fun e w' => e = .returned (.bool (ffin .f32 X)) ∧ Dr w w' := by
  have hs := sub_self .f32 b
  rw [h.eq] at hs
  go_enter Try.func122, Try.ntmps122
  go_wp2_with ((apply upon_fop rfl; (first | assumption | exact Fl.const (of_decide_eq_true (by kernel_rfl))); (first | assumption | exact Fl.const (of_decide_eq_true (by kernel_rfl))); intro r n hr))
  go_ret
  have hz : FloatKind.f32.format.order r 0 = ford .f32 (if ffin .f32 X then some 0 else none) (fl .f32 0) := by rw [order_fl, hr.eq, hs]
  refine ⟨?_, _, rfl⟩
  refine retb ?_
  rw [hz]
  cases ffin .f32 X
  · rfl
  · have : (ford .f32 (if true = true then some 0 else none) (fl .f32 0) == some Ordering.eq) = true := by decide +kernel
    exact this
end Go.Proofs.Ytkbkjkjjoogieaa
