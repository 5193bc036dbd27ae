/- Contracts: how many ticks, lists, and a list between its numbers, on both sides. Condition: the list is read. -/
import Derived.Test.YtceldjkgddbfaaaWa
import Derived.Test.YtceldjkgddbfaaaTr
import Derived.Test.YtceldjkgddbfaaaLo2
namespace Go.Proofs.Ytceldjkgddbfaaa
open Go.RowKit Ieee

def klen (n : Nat) : Bool := decide (1 ≤ n) && decide (n ≤ 64)
theorem klen_of {n : Nat} (h : klen n = true) : 1 ≤ n ∧ n ≤ 64 := by
  unfold klen at h; rw [Bool.and_eq_true] at h; exact ⟨of_decide_eq_true h.1, of_decide_eq_true h.2⟩
theorem klen_int (n : Nat) : inB (n : Int) 1 64 = klen n := by
  unfold inB klen
  congr 1 <;> exact decide_eq_decide.2 (by omega)

set_option maxRecDepth 20000 in
set_option maxHeartbeats 400000 in
theorem c_isTicks (i : Int) (w : World) : Calls Try.prog 54 #[.int .i64 i] w fun e w' => e = .returned (.bool (inB i 1 64)) ∧ w = w' := by
  by_cases h1 : i < 1
  · rw [inB_lo h1]
    have i1 : ¬ (1 : Int) ≤ i := by omega
    clear h1
    go_enter Try.func54, Try.ntmps54
    go_wp2_with (fail)
    go_ret
    exact ⟨rfl, rfl⟩
  by_cases h2 : 64 < i
  · rw [inB_hi h2]
    have i1 : (1 : Int) ≤ i := by omega
    have i2 : ¬ i ≤ 64 := by omega
    clear h1 h2
    go_enter Try.func54, Try.ntmps54
    go_wp2_with (fail)
    go_ret
    exact ⟨rfl, rfl⟩
  rw [inB_yes (by omega) (by omega)]
  have i1 : (1 : Int) ≤ i := by omega
  have i2 : i ≤ 64 := by omega
  clear h1 h2
  go_enter Try.func54, Try.ntmps54
  go_wp2_with (fail)
  go_ret
  exact ⟨rfl, rfl⟩
set_option maxRecDepth 20000 in
set_option maxHeartbeats 400000 in
theorem c_l04Ticks (i : Int) (w : World) : Calls Try.prog 52 #[.int .i64 i] w fun e w' => e = .returned (.bool (inB i 1 64)) ∧ w = w' := by
  go_enter Try.func52, Try.ntmps52
  go_wp2_with (go_at_call 82; refine Calls.mono (c_l00In _ _ _ _) ?_; rintro e w1 ⟨rfl, rfl⟩)
  go_ret
  exact ⟨rfl, rfl⟩
set_option maxRecDepth 20000 in
set_option maxHeartbeats 400000 in
theorem c_isList (n c : Nat) (A : Option Addr) (_hn : n ≤ 1048576) (w : World) : Calls Try.prog 136 #[.slice A n c] w fun e w' => e = .returned (.bool (klen n)) ∧ w = w' := by
  go_enter Try.func136, Try.ntmps136
  go_wp2_with (go_at_call 54; refine Calls.mono (c_isTicks _ _) ?_; rintro e w1 ⟨rfl, rfl⟩)
  go_ret
  exact ⟨retb (klen_int n), rfl⟩
theorem floor_form (x : Nat) : ∃ F : Bool → Nat → Sem Value, Extern.MathFloor.toIntegral "math.archFloor" .down #[.float .f64 x] = (match FloatKind.f64.decode x with | .nan s t => F s t | d => pure (.float .f64 (FloatKind.f64.encode (d.integral .down)))) := ⟨_, rfl⟩
theorem floor_eq (x : Nat) (h : ∃ s m i, FloatKind.f64.decode x = .number s m i) : Extern.MathFloor.toIntegral "math.archFloor" .down #[.float .f64 x] = pure (.float .f64 (floorw x)) := by
  obtain ⟨s, m, i, h⟩ := h
  obtain ⟨F, hF⟩ := floor_form x
  rw [hF, floorw, h]
theorem x_floor {x : Nat} (h : ∃ s m i, FloatKind.f64.decode x = .number s m i) (w : World) : (callFunc 95 #[.float .f64 x]).run Try.prog w = .ok (.value (.float .f64 (floorw x))) w := by
  rw [run_callFunc_extern Try.func95 (by kernel_rfl) (by kernel_rfl) (by kernel_rfl) (e := Extern.MathFloor.toIntegral "math.archFloor" .down) (by kernel_rfl)]
  rw [floor_eq x h]; rfl
set_option maxRecDepth 20000 in
set_option maxHeartbeats 400000 in
theorem c_Floor {x : Nat} (h : ∃ s m i, FloatKind.f64.decode x = .number s m i) (w : World) :
    Calls Try.prog 67 #[.float .f64 x] w fun e w' => e = .returned (.float .f64 (floorw x)) ∧ w = w' := by
  have hx := fun W => x_floor h W
  go_enter Try.func67, Try.ntmps67
  go_wp2
  go_ret
  exact ⟨rfl, rfl⟩
/-- A list between its numbers. -/
def fbetK (L : List (Option Nat)) (F : Option Nat) (K : Nat) : Option Nat :=
  if fzero32 F then L.getD K none else fop .add .f32 (L.getD K none) (fop .mul .f32 F (fop .sub .f32 (L.getD (K + 1) none) (L.getD K none)))
def fbet (L : List (Option Nat)) (T : Option Nat) : Option Nat :=
  if ge0 T && fle32 T (some (mk (L.length - 1))) then fbetK L (fop .sub .f32 T (some (mk (flo T)))) (flo T) else fz
theorem fbet_lo {L : List (Option Nat)} {T : Option Nat} (h : ge0 T = false) : fbet L T = fz := by unfold fbet; rw [h]; rfl
theorem fbet_hi {L : List (Option Nat)} {T : Option Nat} {a : Nat} (hl : L.length = a + 1) (h : fle32 T (some (mk a)) = false) : fbet L T = fz := by
  unfold fbet; rw [hl, Nat.add_sub_cancel, h, Bool.and_false]; rfl
theorem fbet_in {L : List (Option Nat)} {T : Option Nat} {a : Nat} (hl : L.length = a + 1) (h0 : ge0 T = true) (h : fle32 T (some (mk a)) = true) : fbet L T = fbetK L (fop .sub .f32 T (some (mk (flo T)))) (flo T) := by
  unfold fbet; rw [hl, Nat.add_sub_cancel, h, h0]; rfl
theorem fbetK_on {L : List (Option Nat)} {F : Option Nat} {K : Nat} (h : fzero32 F = true) : fbetK L F K = L.getD K none := by unfold fbetK; rw [h]; rfl
theorem fbetK_off {L : List (Option Nat)} {F : Option Nat} {K : Nat} (h : fzero32 F = false) : fbetK L F K = fop .add .f32 (L.getD K none) (fop .mul .f32 F (fop .sub .f32 (L.getD (K + 1) none) (L.getD K none))) := by unfold fbetK; rw [h]; rfl

set_option maxRecDepth 20000 in
set_option maxHeartbeats 4000000 in
theorem c_l04At {w : World} {B n c : Nat} {A : Option Addr} {L : List (Option Nat)} (h : RdF w B A n L) (g1 : 1 ≤ n) (g2 : n ≤ 64) {t : Nat} {T : Option Nat} (ft : Fl .f32 t T) :
    Calls Try.prog 123 #[.slice A n c, .float .f32 t] w fun e w' => ∃ r, e = .returned (.float .f32 r) ∧ Fl .f32 r (fbet L T) ∧ Dr w w' := by
  obtain ⟨a, ha⟩ : ∃ a, n = a + 1 := ⟨n - 1, by omega⟩
  have hla : L.length = a + 1 := by rw [h.len, ha]
  have hn1 : (n : Int) - 1 = (a : Int) := by omega
  have hwa : IntKind.i64.wrap (a : Int) = (a : Int) := IntWalk.i64_in _ (by omega)
  have hma := mk_int a
  have o1 := ft.oge0
  have o2 := ft.ole (fl_mk a)
  have HA := Lib.hid ha
  have HL := Lib.hid hla
  clear ha hla
  cases hG : ge0 T
  · rw [fbet_lo hG]
    rw [hG] at o1
    clear o2
    go_enter Try.func123, Try.ntmps123
    go_wp2_with (fail)
    go_ret
    exact ⟨_, rfl, fl_fz, 0, rfl⟩
  rw [hG] at o1
  cases hE : fle32 T (some (mk a))
  · rw [fbet_hi HL.out hE]
    rw [hE] at o2
    go_enter Try.func123, Try.ntmps123
    go_wp2_with (fail)
    go_ret
    exact ⟨_, rfl, fl_fz, 0, rfl⟩
  rw [hE] at o2
  rw [fbet_in HL.out hG hE]
  obtain ⟨k1, k2, k3, k4⟩ := flo_spec ft (a := a) (by omega) hG hE
  have kw := fun (x : Nat) (hx : Fl .f64 x (fconv .f32 .f64 T)) => flo_wide ft hx (a := a) (by omega) hG hE
  have KW := Lib.hid kw
  clear kw k2 k4
  generalize flo T = K at k1 k3 KW
  have hmK := mk_int K
  have hKn : K < n := by have := HA.out; omega
  have hKi : (K : Int) < (n : Int) := by omega
  obtain ⟨b1, o1', t1, rfl, hb1, hc1, ht1⟩ := h.cell hKn
  cases hZ : fzero32 (fop .sub .f32 T (some (mk K)))
  · rw [fbetK_off hZ]
    have k5 := k3 hZ
    have hK2 : K + 1 < n := by have := HA.out; omega
    obtain ⟨m, hm⟩ : ∃ m, m = K + 1 := ⟨_, rfl⟩
    obtain ⟨b2, o2', t2, hA2, hb2, hc2, ht2'⟩ := h.cell (show m < n by omega)
    simp only [Option.some.injEq, Addr.mk.injEq, and_true] at hA2
    obtain ⟨rfl, rfl⟩ := hA2
    have ht2 : Fl .f32 t2 (L.getD (K + 1) none) := by rw [← hm]; exact ht2'
    have hmk2 : (K : Int) + 1 = (m : Int) := by omega
    have hwm : IntKind.i64.wrap (m : Int) = (m : Int) := IntWalk.i64_in _ (by omega)
    have hmn : (m : Int) < (n : Int) := by omega
    clear ht2' hm hK2
    clear k3
    have HZ := Lib.hid hZ
    clear hZ
    go_enter Try.func123, Try.ntmps123
    go_wp2_with (first | (apply upon_wide s_f32 Try.underlying58; (exact ft); intro r4 n4 hr4; have kk := KW.out r4 hr4; have hcv := fun W => run_convert_float_int (P := Try.prog) W 58 3 .f64 .i64 (floorw r4) K s_f64 Try.underlying3 kk.2) | (go_at_call 67; refine Calls.mono (c_Floor kk.1 _) ?_; rintro e w1 ⟨rfl, rfl⟩) | (apply upon_fop rfl; (exact ft); (exact (fl_mk K)); intro r5 n5 hr5; have hz5 := zero32 r5; rw [hr5.eq, HZ.out] at hz5))
    refine wp_region_loose 17 (by kernel_rfl) (by kernel_rfl) ?_
    simp only [List.take_succ_cons, List.take_zero, List.drop_succ_cons, List.drop_zero]
    refine la_start ?_
    refine la_fix _ (by rfl) (by intros; go_simp; rfl) ?_
    try simp only [Act.put, List.setIfInBounds_toArray, List.set_cons_zero, List.set_cons_succ]
    refine la_fix _ (by rfl) (by intros; go_simp; rfl) ?_
    try simp only [Act.put, List.setIfInBounds_toArray, List.set_cons_zero, List.set_cons_succ]
    refine la_fix _ (by rfl) (by intros; go_simp; rfl) ?_
    try simp only [Act.put, List.setIfInBounds_toArray, List.set_cons_zero, List.set_cons_succ]
    refine la_fix _ (by rfl) (by intros; go_simp; rfl) ?_
    try simp only [Act.put, List.setIfInBounds_toArray, List.set_cons_zero, List.set_cons_succ]
    refine la_fix _ (by rfl) (by intros; go_simp; rfl) ?_
    try simp only [Act.put, List.setIfInBounds_toArray, List.set_cons_zero, List.set_cons_succ]
    refine la_fix _ (by rfl) (by intros; go_simp; rfl) ?_
    try simp only [Act.put, List.setIfInBounds_toArray, List.set_cons_zero, List.set_cons_succ]
    refine la_fix _ (by rfl) (by intros; go_simp; rfl) ?_
    try simp only [Act.put, List.setIfInBounds_toArray, List.set_cons_zero, List.set_cons_succ]
    refine la_fix _ (by rfl) (by intros; go_simp; rfl) ?_
    try simp only [Act.put, List.setIfInBounds_toArray, List.set_cons_zero, List.set_cons_succ]
    refine la_fix _ (by rfl) (by intros; go_simp; rfl) ?_
    try simp only [Act.put, List.setIfInBounds_toArray, List.set_cons_zero, List.set_cons_succ]
    refine la_fix _ (by rfl) (by intros; go_simp; rfl) ?_
    try simp only [Act.put, List.setIfInBounds_toArray, List.set_cons_zero, List.set_cons_succ]
    refine la_fix _ (by rfl) (by intros; go_simp; rfl) ?_
    try simp only [Act.put, List.setIfInBounds_toArray, List.set_cons_zero, List.set_cons_succ]
    refine la_fix _ (by rfl) (by intros; go_simp; rfl) ?_
    try simp only [Act.put, List.setIfInBounds_toArray, List.set_cons_zero, List.set_cons_succ]
    refine la_fix _ (by rfl) (by intros; go_simp; rfl) ?_
    try simp only [Act.put, List.setIfInBounds_toArray, List.set_cons_zero, List.set_cons_succ]
    refine la_fix _ (by rfl) (by intros; go_simp; rfl) ?_
    try simp only [Act.put, List.setIfInBounds_toArray, List.set_cons_zero, List.set_cons_succ]
    refine la_fop (op := .sub) (by rfl) (by rfl) (by intros; refine ⟨_, _, ?_, ?_, fun q => (by go_simp; rfl)⟩ <;> (first | assumption | exact fl_fu | exact fl_fz)) ?_
    try simp only [Act.put, List.setIfInBounds_toArray, List.set_cons_zero, List.set_cons_succ]
    refine la_fop (op := .mul) (by rfl) (by rfl) (by intros; refine ⟨_, _, ?_, ?_, fun q => (by go_simp; rfl)⟩ <;> (first | assumption | exact fl_fu | exact fl_fz)) ?_
    try simp only [Act.put, List.setIfInBounds_toArray, List.set_cons_zero, List.set_cons_succ]
    refine la_fop (op := .add) (by rfl) (by rfl) (by intros; refine ⟨_, _, ?_, ?_, fun q => (by go_simp; rfl)⟩ <;> (first | assumption | exact fl_fu | exact fl_fz)) ?_
    try simp only [Act.put, List.setIfInBounds_toArray, List.set_cons_zero, List.set_cons_succ]
    refine la_end ?_
    intro r6 hr6 r7 hr7 r8 hr8 q
    go_wp2_with (fail)
    go_ret
    exact ⟨_, rfl, hr8, _, World.drewN_drewN _ _ _⟩
  · rw [fbetK_on hZ]
    clear k3
    have HZ := Lib.hid hZ
    clear hZ
    go_enter Try.func123, Try.ntmps123
    go_wp2_with (first | (apply upon_wide s_f32 Try.underlying58; (exact ft); intro r4 n4 hr4; have kk := KW.out r4 hr4; have hcv := fun W => run_convert_float_int (P := Try.prog) W 58 3 .f64 .i64 (floorw r4) K s_f64 Try.underlying3 kk.2) | (go_at_call 67; refine Calls.mono (c_Floor kk.1 _) ?_; rintro e w1 ⟨rfl, rfl⟩) | (apply upon_fop rfl; (exact ft); (exact (fl_mk K)); intro r5 n5 hr5; have hz5 := zero32 r5; rw [hr5.eq, HZ.out] at hz5))
    go_ret
    exact ⟨_, rfl, ht1, _, rfl⟩
/-- A number and its success. -/
def RetX (w : World) (e : Ending) (w' : World) (X : Option Nat) (ok : Bool) : Prop := ∃ r, e = .returned (.tuple #[.float .f32 r, .bool ok]) ∧ Fl .f32 r X ∧ Dr w w'
set_option maxRecDepth 20000 in
set_option maxHeartbeats 4000000 in
theorem c_impl_SampleBetween {w : World} {B n c : Nat} {A : Option Addr} {L : List (Option Nat)} (h : RdF w B A n L) (hn : n ≤ 1048576) {t : Nat} {T : Option Nat} (ft : Fl .f32 t T) :
    Calls Try.prog 124 #[.slice A n c, .float .f32 t] w fun e w' => RetX w e w' (if klen n then fbet L T else fz) (klen n) := by
  cases hV : klen n
  · go_enter Try.func124, Try.ntmps124
    go_wp2_with (go_at_call 136; refine Calls.mono (c_isList _ _ _ hn _) ?_; rw [hV]; rintro e w1 ⟨rfl, rfl⟩)
    go_ret2
    exact ⟨_, rfl, fl_fz, 0, rfl⟩
  rw [if_pos rfl]
  obtain ⟨g1, g2⟩ := klen_of hV
  obtain ⟨a, ha⟩ : ∃ a, n = a + 1 := ⟨n - 1, by omega⟩
  have hla : L.length = a + 1 := by rw [h.len, ha]
  have hn1 : (n : Int) - 1 = (a : Int) := by omega
  have hwa : IntKind.i64.wrap (a : Int) = (a : Int) := IntWalk.i64_in _ (by omega)
  have hma := mk_int a
  have o1 := ft.oge0
  have o2 := ft.ole (fl_mk a)
  have HA := Lib.hid ha
  have HL := Lib.hid hla
  clear ha hla
  cases hG : ge0 T
  · rw [fbet_lo hG]
    rw [hG] at o1
    clear o2
    go_enter Try.func124, Try.ntmps124
    go_wp2_with (go_at_call 136; refine Calls.mono (c_isList _ _ _ hn _) ?_; rw [hV]; rintro e w1 ⟨rfl, rfl⟩)
    go_ret2
    exact ⟨_, rfl, fl_fz, 0, rfl⟩
  rw [hG] at o1
  cases hE : fle32 T (some (mk a))
  · rw [fbet_hi HL.out hE]
    rw [hE] at o2
    go_enter Try.func124, Try.ntmps124
    go_wp2_with (go_at_call 136; refine Calls.mono (c_isList _ _ _ hn _) ?_; rw [hV]; rintro e w1 ⟨rfl, rfl⟩)
    go_ret2
    exact ⟨_, rfl, fl_fz, 0, rfl⟩
  rw [hE] at o2
  rw [fbet_in HL.out hG hE]
  obtain ⟨k1, k2, k3, k4⟩ := flo_spec ft (a := a) (by omega) hG hE
  clear k4
  generalize flo T = K at k1 k2 k3
  have hcv := fun W => run_convert_float_int (P := Try.prog) W 35 3 .f32 .i64 t K s_f32 Try.underlying3 k2
  clear k2
  have hmK := mk_int K
  have hKn : K < n := by have := HA.out; omega
  have hKi : (K : Int) < (n : Int) := by omega
  obtain ⟨b1, o1', t1, rfl, hb1, hc1, ht1⟩ := h.cell hKn
  cases hZ : fzero32 (fop .sub .f32 T (some (mk K)))
  · rw [fbetK_off hZ]
    have k5 := k3 hZ
    have hK2 : K + 1 < n := by have := HA.out; omega
    obtain ⟨m, hm⟩ : ∃ m, m = K + 1 := ⟨_, rfl⟩
    obtain ⟨b2, o2', t2, hA2, hb2, hc2, ht2'⟩ := h.cell (show m < n by omega)
    simp only [Option.some.injEq, Addr.mk.injEq, and_true] at hA2
    obtain ⟨rfl, rfl⟩ := hA2
    have ht2 : Fl .f32 t2 (L.getD (K + 1) none) := by rw [← hm]; exact ht2'
    have hmk2 : (K : Int) + 1 = (m : Int) := by omega
    have hwm : IntKind.i64.wrap (m : Int) = (m : Int) := IntWalk.i64_in _ (by omega)
    have hmn : (m : Int) < (n : Int) := by omega
    clear ht2' hm hK2
    clear k3
    have HZ := Lib.hid hZ
    clear hZ
    go_enter Try.func124, Try.ntmps124
    go_wp2_with (first | (go_at_call 136; refine Calls.mono (c_isList _ _ _ hn _) ?_; rw [hV]; rintro e w1 ⟨rfl, rfl⟩) | (apply upon_fop rfl; (exact ft); (exact (fl_mk K)); intro r5 n5 hr5; have hz5 := zero32 r5; rw [hr5.eq, HZ.out] at hz5))
    refine wp_region_loose 17 (by kernel_rfl) (by kernel_rfl) ?_
    simp only [List.take_succ_cons, List.take_zero, List.drop_succ_cons, List.drop_zero]
    refine la_start ?_
    refine la_fix _ (by rfl) (by intros; go_simp; rfl) ?_
    try simp only [Act.put, List.setIfInBounds_toArray, List.set_cons_zero, List.set_cons_succ]
    refine la_fix _ (by rfl) (by intros; go_simp; rfl) ?_
    try simp only [Act.put, List.setIfInBounds_toArray, List.set_cons_zero, List.set_cons_succ]
    refine la_fix _ (by rfl) (by intros; go_simp; rfl) ?_
    try simp only [Act.put, List.setIfInBounds_toArray, List.set_cons_zero, List.set_cons_succ]
    refine la_fix _ (by rfl) (by intros; go_simp; rfl) ?_
    try simp only [Act.put, List.setIfInBounds_toArray, List.set_cons_zero, List.set_cons_succ]
    refine la_fix _ (by rfl) (by intros; go_simp; rfl) ?_
    try simp only [Act.put, List.setIfInBounds_toArray, List.set_cons_zero, List.set_cons_succ]
    refine la_fix _ (by rfl) (by intros; go_simp; rfl) ?_
    try simp only [Act.put, List.setIfInBounds_toArray, List.set_cons_zero, List.set_cons_succ]
    refine la_fix _ (by rfl) (by intros; go_simp; rfl) ?_
    try simp only [Act.put, List.setIfInBounds_toArray, List.set_cons_zero, List.set_cons_succ]
    refine la_fix _ (by rfl) (by intros; go_simp; rfl) ?_
    try simp only [Act.put, List.setIfInBounds_toArray, List.set_cons_zero, List.set_cons_succ]
    refine la_fix _ (by rfl) (by intros; go_simp; rfl) ?_
    try simp only [Act.put, List.setIfInBounds_toArray, List.set_cons_zero, List.set_cons_succ]
    refine la_fix _ (by rfl) (by intros; go_simp; rfl) ?_
    try simp only [Act.put, List.setIfInBounds_toArray, List.set_cons_zero, List.set_cons_succ]
    refine la_fix _ (by rfl) (by intros; go_simp; rfl) ?_
    try simp only [Act.put, List.setIfInBounds_toArray, List.set_cons_zero, List.set_cons_succ]
    refine la_fix _ (by rfl) (by intros; go_simp; rfl) ?_
    try simp only [Act.put, List.setIfInBounds_toArray, List.set_cons_zero, List.set_cons_succ]
    refine la_fix _ (by rfl) (by intros; go_simp; rfl) ?_
    try simp only [Act.put, List.setIfInBounds_toArray, List.set_cons_zero, List.set_cons_succ]
    refine la_fix _ (by rfl) (by intros; go_simp; rfl) ?_
    try simp only [Act.put, List.setIfInBounds_toArray, List.set_cons_zero, List.set_cons_succ]
    refine la_fop (op := .sub) (by rfl) (by rfl) (by intros; refine ⟨_, _, ?_, ?_, fun q => (by go_simp; rfl)⟩ <;> (first | assumption | exact fl_fu | exact fl_fz)) ?_
    try simp only [Act.put, List.setIfInBounds_toArray, List.set_cons_zero, List.set_cons_succ]
    refine la_callF (k := .f32) (by rfl) (by intros; refine ⟨_, fun q => (by go_simp; first | rfl | exact ⟨rfl, rfl⟩), fun q => ?_⟩; exact c_mulNumbers (by assumption) (by assumption) _) ?_
    try simp only [Act.put, List.setIfInBounds_toArray, List.set_cons_zero, List.set_cons_succ]
    refine la_fop (op := .add) (by rfl) (by rfl) (by intros; refine ⟨_, _, ?_, ?_, fun q => (by go_simp; rfl)⟩ <;> (first | assumption | exact fl_fu | exact fl_fz)) ?_
    try simp only [Act.put, List.setIfInBounds_toArray, List.set_cons_zero, List.set_cons_succ]
    refine la_end ?_
    intro r6 hr6 r7 hr7 r8 hr8 q
    go_wp2_with (fail)
    go_ret2
    exact ⟨_, rfl, hr8, _, World.drewN_drewN _ _ _⟩
  · rw [fbetK_on hZ]
    clear k3
    have HZ := Lib.hid hZ
    clear hZ
    go_enter Try.func124, Try.ntmps124
    go_wp2_with (first | (go_at_call 136; refine Calls.mono (c_isList _ _ _ hn _) ?_; rw [hV]; rintro e w1 ⟨rfl, rfl⟩) | (apply upon_fop rfl; (exact ft); (exact (fl_mk K)); intro r5 n5 hr5; have hz5 := zero32 r5; rw [hr5.eq, HZ.out] at hz5))
    go_ret2
    exact ⟨_, rfl, ht1, _, rfl⟩
end Go.Proofs.Ytceldjkgddbfaaa
