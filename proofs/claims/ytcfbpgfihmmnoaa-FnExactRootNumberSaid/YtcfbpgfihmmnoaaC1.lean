/- Contracts of functions of chapter 1 (numbers), each by a walk of its Go text. No condition but that floats are 32 or 64 bits. -/
import Derived.Test.YtcfbpgfihmmnoaaRows
import Derived.Test.YtcfbpgfihmmnoaaNum
namespace Go.Proofs.Ytcfbpgfihmmnoaa
open Go.RowKit Ieee

theorem retb {a b : Bool} (h : a = b) : Ending.returned (.bool a) = .returned (.bool b) := by rw [h]
theorem s_f32 : (Try.prog.underlying 22).isSome = true := by rw [Try.underlying22]; rfl
theorem s_f64 : (Try.prog.underlying 29).isSome = true := by rw [Try.underlying29]; rfl

theorem ofInt_i64 (a : Nat) (ha : a < 9223372036854775808) : (BitVec.ofInt 64 (a : Int)).toNat = a := by
  rw [BitVec.ofInt_natCast, BitVec.toNat_ofNat]; exact Nat.mod_eq_of_lt (by omega)
theorem i64_and_nat (a b : Nat) (ha : a < 9223372036854775808) (hb : b < 9223372036854775808) : bits .and .i64 (a : Int) (b : Int) = ((a &&& b : Nat) : Int) := by
  have hx : a &&& b < 2 ^ 63 := Nat.and_lt_two_pow _ (by omega)
  show IntKind.i64.wrap ((BitVec.ofInt 64 (a : Int) &&& BitVec.ofInt 64 (b : Int)).toNat : Int) = _
  rw [BitVec.toNat_and, ofInt_i64 a ha, ofInt_i64 b hb, IntKind.wrap_i64]
  omega

@[go_sem] theorem x_Float32bits (b : Nat) (w : World) : (callFunc 32 #[.float .f32 b]).run Try.prog w = .ok (.value (.int .u32 b)) w := by
  rw [run_callFunc_extern Try.func32 (by kernel_rfl) (by kernel_rfl) (by kernel_rfl) (e := Extern.MathFloatBits.float32bits) (by kernel_rfl)]; rfl
@[go_sem] theorem x_Float32frombits (n : Int) (w : World) : (callFunc 35 #[.int .u32 n]).run Try.prog w = .ok (.value (.float .f32 n.toNat)) w := by
  rw [run_callFunc_extern Try.func35 (by kernel_rfl) (by kernel_rfl) (by kernel_rfl) (e := Extern.MathFloatBits.float32frombits) (by kernel_rfl)]; rfl
@[go_sem] theorem x_Float64bits (b : Nat) (w : World) : (callFunc 45 #[.float .f64 b]).run Try.prog w = .ok (.value (.int .u64 b)) w := by
  rw [run_callFunc_extern Try.func45 (by kernel_rfl) (by kernel_rfl) (by kernel_rfl) (e := Extern.MathFloatBits.float64bits) (by kernel_rfl)]; rfl
@[go_sem] theorem x_Float64frombits (n : Int) (w : World) : (callFunc 44 #[.int .u64 n]).run Try.prog w = .ok (.value (.float .f64 n.toNat)) w := by
  rw [run_callFunc_extern Try.func44 (by kernel_rfl) (by kernel_rfl) (by kernel_rfl) (e := Extern.MathFloatBits.float64frombits) (by kernel_rfl)]; rfl

set_option maxHeartbeats 400000 in
theorem c_sameFloat {a b : Nat} {X : Option Nat} (ha : Fl .f64 a X) (hb : Fl .f64 b X) (w : World) :
    Calls Try.prog 19 #[.float .f64 a, .float .f64 b] w fun e w' => e = .returned (.bool true) ∧ Dr w w' := by
  cases X with
  | none =>
    have h1 := order_self_ne .f64 a
    have h2 := order_self_ne .f64 b
    rw [ha.eq] at h1
    rw [hb.eq] at h2
    go_enter Try.func19, Try.ntmps19
    go_wp2
    go_ret
    exact ⟨rfl, 0, rfl⟩
  | some c =>
    have h1 := order_self_ne .f64 a
    have h3 := order_self .f64 a
    have ha' := ha.eq
    obtain ⟨rfl, _⟩ := fl_some ha'
    obtain ⟨rfl, _⟩ := fl_some hb.eq
    rw [ha'] at h1 h3
    simp only [Option.isNone_some, Option.isSome_some] at h1 h3
    clear ha'
    cases h0 : (FloatKind.f64.format.order c 0 == some .eq) with
    | false =>
      go_enter Try.func19, Try.ntmps19
      go_wp2
      go_ret
      exact ⟨rfl, 0, rfl⟩
    | true =>
      go_enter Try.func19, Try.ntmps19
      go_wp2_with ((apply upon_fop rfl; (first | assumption | exact Fl.const (of_decide_eq_true (by kernel_rfl))); (first | assumption | exact Fl.const (of_decide_eq_true (by kernel_rfl))); intro r n hr))
      all_goals go_tidy
      go_ret
      rename_i r1 n1 h1
      have e : FloatKind.f64.format.order r1 0 = FloatKind.f64.format.order r 0 := by rw [order_fl, order_fl, h1.eq, hr.eq]
      exact ⟨by simp [e], _, rfl⟩
set_option maxHeartbeats 400000 in
theorem c_spec_l01Bits {b : Nat} {X : Option Nat} (h : Fl .f32 b X) (w : World) :
    Calls Try.prog 31 #[.float .f32 b] w fun e w' => e = .returned (.int .i64 (fbits X)) ∧ w = w' := by
  have hb : b < 4294967296 := h.lt
  have h0 := order_self_ne .f32 b
  rw [h.eq] at h0
  cases X with
  | none =>
    go_enter Try.func31, Try.ntmps31
    go_wp2
    go_ret
    exact ⟨rfl, rfl⟩
  | some c =>
    obtain ⟨rfl, _⟩ := fl_some h.eq
    go_enter Try.func31, Try.ntmps31
    go_wp2
    go_ret
    exact ⟨rfl, rfl⟩
set_option maxHeartbeats 400000 in
theorem c_impl_BitsOf {b : Nat} {X : Option Nat} (h : Fl .f32 b X) (w : World) :
    Calls Try.prog 16 #[.float .f32 b] w fun e w' => e = .returned (.int .i64 (fbits X)) ∧ w = w' := by
  have hb : b < 4294967296 := h.lt
  have h0 := order_self_ne .f32 b
  rw [h.eq] at h0
  cases X with
  | none =>
    go_enter Try.func16, Try.ntmps16
    go_wp2
    go_ret
    exact ⟨rfl, rfl⟩
  | some c =>
    obtain ⟨rfl, _⟩ := fl_some h.eq
    go_enter Try.func16, Try.ntmps16
    go_wp2
    go_ret
    exact ⟨rfl, rfl⟩
set_option maxHeartbeats 400000 in
theorem c_Abs (b : Nat) (hb : b < 18446744073709551616) (w : World) :
    Calls Try.prog 37 #[.float .f64 b] w fun e w' => e = .returned (.float .f64 (b % 9223372036854775808)) ∧ w = w' := by
  have h1 : bits .andNot .u64 (b : Int) 9223372036854775808 = ((b % 9223372036854775808 : Nat) : Int) := by
    have h := Go.u64_andNot_nat b 9223372036854775808 hb (by omega)
    rw [word_mod] at h
    exact h
  go_enter Try.func37, Try.ntmps37
  go_wp2
  go_ret
  exact ⟨rfl, rfl⟩
set_option maxHeartbeats 400000 in
theorem c_isFiniteLong {b : Nat} {X : Option Nat} (h : Fl .f64 b X) (w : World) :
    Calls Try.prog 30 #[.float .f64 b] w fun e w' => e = .returned (.bool (ffin .f64 X)) ∧ w = w' := by
  have h0 := order_self_ne .f64 b
  rw [h.eq] at h0
  cases X with
  | none =>
    go_enter Try.func30, Try.ntmps30
    go_wp2
    go_ret
    exact ⟨rfl, rfl⟩
  | some c =>
    have hx := h.eq
    have hg := abs_gt_max b (by rw [hx]; simp)
    rw [hx] at hg
    have hb := h.lt
    cases hf : ffin .f64 (some c) with
    | true =>
      rw [hf] at hg
      clear hx hf
      go_enter Try.func30, Try.ntmps30
      go_wp2_with (first | (go_at_call 37; refine (c_Abs _ hb _).mono ?_; rintro e w' ⟨rfl, rfl⟩) | go_in)
      go_ret
      exact ⟨rfl, rfl⟩
    | false =>
      rw [hf] at hg
      clear hx hf
      go_enter Try.func30, Try.ntmps30
      go_wp2_with (first | (go_at_call 37; refine (c_Abs _ hb _).mono ?_; rintro e w' ⟨rfl, rfl⟩) | go_in)
      go_ret
      exact ⟨rfl, rfl⟩
set_option maxHeartbeats 400000 in
theorem c_impl_IsFinite {b : Nat} {X : Option Nat} (h : Fl .f32 b X) (w : World) :
    Calls Try.prog 14 #[.float .f32 b] w fun e w' => e = .returned (.bool (ffin .f32 X)) ∧ Dr w w' := by
  have hw := ffin_wide h
  go_enter Try.func14, Try.ntmps14
  go_wp2_with (first | (apply upon_wide s_f32 Try.underlying29; (first | assumption | exact Fl.const (of_decide_eq_true (by kernel_rfl))); intro r n hr) | (go_at_call 30; refine (c_isFiniteLong hr _).mono ?_; rintro e w' ⟨rfl, rfl⟩))
  go_ret
  exact ⟨rfl, _, rfl⟩
set_option maxHeartbeats 400000 in
theorem c_l01Finite {b : Nat} {X : Option Nat} (h : Fl .f32 b X) (w : World) :
    Calls Try.prog 29 #[.float .f32 b] w fun e w' => e = .returned (.bool (ffin .f32 X)) ∧ Dr w w' := by
  have hs := sub_self .f32 b
  rw [h.eq] at hs
  go_enter Try.func29, Try.ntmps29
  go_wp2_with ((apply upon_fop rfl; (first | assumption | exact Fl.const (of_decide_eq_true (by kernel_rfl))); (first | assumption | exact Fl.const (of_decide_eq_true (by kernel_rfl))); intro r n hr))
  go_ret
  have hz : FloatKind.f32.format.order r 0 = ford .f32 (if ffin .f32 X then some 0 else none) (fl .f32 0) := by rw [order_fl, hr.eq, hs]
  refine ⟨?_, _, rfl⟩
  refine retb ?_
  rw [hz]
  cases ffin .f32 X
  · rfl
  · have : (ford .f32 (if true = true then some 0 else none) (fl .f32 0) == some Ordering.eq) = true := by decide +kernel
    exact this
theorem and_mask_int (b : Nat) (hb : b < 4294967296) : bits .and .i64 (b : Int) 2139095040 = ((b &&& 2139095040 : Nat) : Int) := i64_and_nat b 2139095040 (by omega) (by omega)
theorem and_sign_int (b : Nat) (hb : b < 4294967296) : bits .and .i64 (b : Int) 2147483648 = ((b / 2147483648 * 2147483648 : Nat) : Int) := by
  rw [← sign32 b hb]; exact i64_and_nat b 2147483648 (by omega) (by omega)

set_option maxHeartbeats 400000 in
theorem c_spec_IsSubnormal {b : Nat} {X : Option Nat} (h : Fl .f32 b X) (w : World) :
    Calls Try.prog 22 #[.float .f32 b] w fun e w' => e = .returned (.bool (fsubn X)) ∧ Dr w w' := by
  have hb : b < 4294967296 := h.lt
  have hz := zero32 b
  have ha := and_mask_int b hb
  have hm := mask32_zero b
  rw [h.eq] at hz
  cases X with
  | none =>
    have hne : (FloatKind.f32.format.order b 0 != some .eq) = true := by rw [bne, hz]; rfl
    clear hz ha hm
    go_enter Try.func22, Try.ntmps22
    go_wp2_with (first | (go_at_call 31; refine (c_spec_l01Bits h _).mono ?_; rintro e w' ⟨rfl, rfl⟩) | go_in)
    go_ret
    have hmn : (bits .and .i64 (fbits none) 2139095040 == 0) = false := by decide +kernel
    exact ⟨retb hmn, 0, rfl⟩
  | some c =>
    obtain ⟨rfl, _⟩ := fl_some h.eq
    by_cases h0 : c % 2147483648 = 0
    · have hne : (FloatKind.f32.format.order c 0 != some .eq) = false := by rw [bne, hz]; simp [fzero32, h0]
      clear hz ha
      go_enter Try.func22, Try.ntmps22
      go_wp2_with (first | (go_at_call 31; refine (c_spec_l01Bits h _).mono ?_; rintro e w' ⟨rfl, rfl⟩) | go_in)
      go_ret
      exact ⟨retb (by simp [fsubn, h0]), 0, rfl⟩
    · have hne : (FloatKind.f32.format.order c 0 != some .eq) = true := by rw [bne, hz]; simp [fzero32, h0]
      have hbt : ((((c &&& 2139095040 : Nat) : Int)) == 0) = decide (c % 2147483648 < 8388608) := by
        rw [Bool.eq_iff_iff]; simp only [beq_iff_eq, decide_eq_true_eq]; rw [← hm]; omega
      clear hz hm
      go_enter Try.func22, Try.ntmps22
      go_wp2_with (first | (go_at_call 31; refine (c_spec_l01Bits h _).mono ?_; rintro e w' ⟨rfl, rfl⟩) | go_in)
      go_ret
      refine ⟨retb ?_, 0, rfl⟩
      show (bits .and .i64 (c : Int) 2139095040 == 0) = fsubn (some c)
      rw [ha, hbt]
      simp [fsubn, h0]
set_option maxHeartbeats 400000 in
theorem c_impl_IsSubnormal {b : Nat} {X : Option Nat} (h : Fl .f32 b X) (w : World) :
    Calls Try.prog 23 #[.float .f32 b] w fun e w' => e = .returned (.bool (fsubn X)) ∧ Dr w w' := by
  have hz := zero32 b
  rw [h.eq] at hz
  have ht : ∀ r, Fl .f64 r (fconv .f32 .f64 X) → (FloatKind.f64.format.order (r % 9223372036854775808) 4039728865751334912 == some .lt) = ftiny32 X := by
    intro r hr
    rw [← h.eq] at hr ⊢
    exact tiny32 hr
  by_cases hne : (FloatKind.f32.format.order b 0 == some .eq) = true
  · have hne' : (FloatKind.f32.format.order b 0 != some .eq) = false := by rw [bne, hne]; rfl
    have hs : fsubn X = false := by
      rw [hz] at hne
      cases X with
      | none => rfl
      | some c => simp [fzero32] at hne; simp [fsubn, hne]
    clear hz ht hne
    go_enter Try.func23, Try.ntmps23
    go_wp2
    go_ret
    exact ⟨retb hs.symm, 0, rfl⟩
  · have hne' : (FloatKind.f32.format.order b 0 != some .eq) = true := by rw [bne]; simpa using hne
    have HT := Lib.hid ht
    have Hz := Lib.hid hz
    have Hne := Lib.hid hne
    clear ht hz hne
    go_enter Try.func23, Try.ntmps23
    go_wp2_with (first | (apply upon_wide s_f32 Try.underlying29; (first | assumption | exact Fl.const (of_decide_eq_true (by kernel_rfl))); intro r n hr) | (go_at_call 37; refine (c_Abs _ hr.lt _).mono ?_; rintro e w' ⟨rfl, rfl⟩) | go_in)
    go_ret
    refine ⟨retb ?_, _, rfl⟩
    have hh := HT.out r hr
    refine Eq.trans hh ?_
    have hz := Hz.out
    have hne := Hne.out
    rw [hz] at hne
    cases X with
    | none => rfl
    | some c => simp [fzero32] at hne; simp [fsubn, ftiny32, hne]
theorem ret32 {a : Nat} {X : Option Nat} (h : Fl .f32 a X) (w : World) (n : Nat) : ∃ r, Ending.returned (.float .f32 a) = .returned (.float .f32 r) ∧ Fl .f32 r X ∧ Dr w (w.drewN n) := ⟨a, rfl, h, n, rfl⟩

set_option maxHeartbeats 400000 in
theorem c_spec_l01Flush {b : Nat} {X : Option Nat} (h : Fl .f32 b X) (w : World) :
    Calls Try.prog 38 #[.float .f32 b] w fun e w' => ∃ r, e = .returned (.float .f32 r) ∧ Fl .f32 r (fflush X) ∧ Dr w w' := by
  have hb : b < 4294967296 := h.lt
  have ha := and_mask_int b hb
  have hs := and_sign_int b hb
  have hm := mask32_zero b
  cases X with
  | none =>
    have hmn : (bits .and .i64 (fbits none) 2139095040 == 0) = false := by decide +kernel
    clear ha hm hs
    go_enter Try.func38, Try.ntmps38
    go_wp2_with (first | (go_at_call 31; refine (c_spec_l01Bits h _).mono ?_; rintro e w' ⟨rfl, rfl⟩) | go_in)
    go_ret
    exact ⟨b, rfl, h, 0, rfl⟩
  | some c =>
    obtain ⟨rfl, _⟩ := fl_some h.eq
    have hf : fbits (some c) = (c : Int) := rfl
    by_cases h0 : c % 2147483648 < 8388608
    · have hmn : (((c &&& 2139095040 : Nat) : Int) == 0) = true := by rw [beq_iff_eq]; have := hm.2 h0; omega
      have hq : 0 ≤ ((c / 2147483648 * 2147483648 : Nat) : Int) ∧ ((c / 2147483648 * 2147483648 : Nat) : Int) ≤ 4294967295 := by omega
      have hu := IntWalk.u32_in _ hq
      clear hm hq
      go_enter Try.func38, Try.ntmps38
      go_wp2_with (first | (go_at_call 31; refine (c_spec_l01Bits h _).mono ?_; rintro e w' ⟨rfl, rfl⟩) | go_in)
      go_ret
      exact ⟨c / 2147483648 * 2147483648, rfl, ⟨by rw [fl_zero32]; simp [fflush, h0], by show _ < 4294967296; omega⟩, 0, rfl⟩
    · have hmn : (((c &&& 2139095040 : Nat) : Int) == 0) = false := by
        rw [beq_eq_false_iff_ne]; intro hh; exact h0 (hm.1 (by omega))
      clear hm hs
      go_enter Try.func38, Try.ntmps38
      go_wp2_with (first | (go_at_call 31; refine (c_spec_l01Bits h _).mono ?_; rintro e w' ⟨rfl, rfl⟩) | go_in)
      go_ret
      exact ⟨c, rfl, by simpa [fflush, h0] using h, 0, rfl⟩
set_option maxHeartbeats 400000 in
theorem c_Copysign0 (b : Nat) (hb : b < 18446744073709551616) (w : World) :
    Calls Try.prog 39 #[.float .f64 0, .float .f64 b] w fun e w' => e = .returned (.float .f64 (b / 9223372036854775808 * 9223372036854775808)) ∧ w = w' := by
  have h1 : bits .andNot .u64 0 9223372036854775808 = 0 := by decide +kernel
  have h2 : bits .and .u64 (b : Int) 9223372036854775808 = ((b / 9223372036854775808 * 9223372036854775808 : Nat) : Int) := by
    have h := Go.u64_and_nat b 9223372036854775808 hb (by omega)
    have e : b &&& 9223372036854775808 = b / 9223372036854775808 * 9223372036854775808 := by
      have := and_mask b 1 63
      simp only [Nat.reducePow, Nat.reduceSub, Nat.one_mul] at this
      rw [this]; omega
    rw [e] at h
    exact h
  have h3 : bits .or .u64 0 ((b : Int) / 9223372036854775808 * 9223372036854775808) = ((b / 9223372036854775808 * 9223372036854775808 : Nat) : Int) := by
    have h := Go.u64_or_nat 0 (b / 9223372036854775808 * 9223372036854775808) (by omega) (by omega)
    simpa using h
  go_enter Try.func39, Try.ntmps39
  go_wp2
  go_ret
  exact ⟨rfl, rfl⟩

set_option maxHeartbeats 400000 in
theorem c_impl_FlushNumber {b : Nat} {X : Option Nat} (h : Fl .f32 b X) (w : World) :
    Calls Try.prog 25 #[.float .f32 b] w fun e w' => ∃ r, e = .returned (.float .f32 r) ∧ Fl .f32 r (fflush X) ∧ Dr w w' := by
  have hb : b < 4294967296 := h.lt
  cases hs : fsubn X with
  | false =>
    have hx : fflush X = X := by
      cases X with
      | none => rfl
      | some c =>
        obtain ⟨rfl, _⟩ := fl_some h.eq
        simp [fsubn] at hs
        simp only [fflush, Option.map_some]
        split
        · congr 1; omega
        · rfl
    have Hx := Lib.hid hx
    clear hx
    go_enter Try.func25, Try.ntmps25
    go_wp2_with (go_at_call 23; refine (c_impl_IsSubnormal h _).mono ?_; rintro e w' ⟨rfl, n, rfl⟩)
    go_ret
    exact ⟨b, rfl, by rw [Hx.out]; exact h, _, rfl⟩
  | true =>
    have hw := wide_sign hb (by rw [h.eq]; exact hs)
    rw [h.eq] at hw
    obtain ⟨hw1, hw2⟩ := hw
    have hq : b / 2147483648 = 0 ∨ b / 2147483648 = 1 := by omega
    obtain ⟨z1, z2, z3⟩ := narrow_zero (b / 2147483648) hq
    have hx : fflush X = some (b / 2147483648 * 2147483648) := by
      cases X with
      | none => cases hs
      | some c =>
        obtain ⟨rfl, _⟩ := fl_some h.eq
        simp [fsubn] at hs
        simp [fflush, hs.2]
    have Hx := Lib.hid hx
    have H1 := Lib.hid hw1
    have H2 := Lib.hid hw2
    have Z1 := Lib.hid z1
    have Z3 := Lib.hid z3
    clear hx hw1 hw2 z1 z3
    go_enter Try.func25, Try.ntmps25
    go_wp2_with (first | (go_at_call 23; refine (c_impl_IsSubnormal h _).mono ?_; rintro e w' ⟨rfl, n, rfl⟩) | (apply upon_wide s_f32 Try.underlying29; (first | assumption | exact Fl.const (of_decide_eq_true (by kernel_rfl))); intro r n hr) | (go_at_call 39; refine (c_Copysign0 _ hr.lt _).mono ?_; rintro e w' ⟨rfl, rfl⟩))
    have hr' := hr.eq
    rw [H1.out] at hr'
    obtain ⟨hr2, _⟩ := fl_some hr'
    have hr3 : r / 9223372036854775808 * 9223372036854775808 = b / 2147483648 * 9223372036854775808 := by rw [← hr2]; exact H2.out
    rw [hr3]
    refine upon_narrow s_f64 Try.underlying22 ⟨Z1.out, by show _ < 18446744073709551616; omega⟩ z2 ?_
    intro r' n' hr'
    go_wp2
    go_ret
    exact ⟨r', rfl, by rw [Hx.out, ← Z3.out]; exact hr', _, rfl⟩
end Go.Proofs.Ytcfbpgfihmmnoaa
