/- Contracts: the energy of a trace, on both sides. Condition: the list is read, and has room for what it has. -/
import Derived.Test.YtcjddnkebdjhoaaTn
import Derived.Test.YtcjddnkebdjhoaaTz
import Derived.Test.YtcjddnkebdjhoaaRl
import Derived.Laws.Cover3
import Derived.Laws.StructEq
import Derived.Laws.Cover2
namespace Go.Proofs.Ytcjddnkebdjhoaa
open Go.RowKit Ieee

theorem run_equalIn_f32 {P : Program} (d : Nat) (t : TypeId) (a b : Nat) (h : P.underlying t = some (.float .f32)) (w : World) : (Op.equalIn (d + 1) t (.float .f32 a) (.float .f32 b)).run P w = .ok (FloatKind.f32.format.order a b == some .eq) w := by
  simp [Op.equalIn, run_underlying h, Op.floatEq]
/-- Zero, of a word. -/
def zw (t : Nat) : Bool := FloatKind.f32.format.order t 0 == some .eq
set_option maxRecDepth 20000 in
set_option maxHeartbeats 4000000 in
theorem eq_smp (t0 t1 t2 t3 t4 t5 t6 t7 : Nat) (w : World) :
    (Op.equalIn 10000 74 (.agg #[.float .f32 t0, .float .f32 t1, .float .f32 t2, .float .f32 t3, .float .f32 t4, .float .f32 t5, .float .f32 t6, .float .f32 t7]) (.agg #[.float .f32 0, .float .f32 0, .float .f32 0, .float .f32 0, .float .f32 0, .float .f32 0, .float .f32 0, .float .f32 0])).run Try.prog w
      = .ok (zw t0 && (zw t1 && (zw t2 && (zw t3 && (zw t4 && (zw t5 && (zw t6 && zw t7))))))) w := by
  have u3 := Try.underlying29
  have a3 := Try.isAgg29
  have z3 := Try.sizeOf29
  have hq := fun (b : Nat) (W : World) => run_equalIn_f32 (P := Try.prog) 9998 29 b 0 u3 W
  unfold zw
  rw [show (10000 : Nat) = 9999 + 1 from rfl, Op.equalIn]
  simp only [Sem.run_bind, run_underlying Try.underlying74, Result.andThen_ok]
  simp only [Std.Legacy.Range.forIn_eq_forIn_range', Std.Legacy.Range.size, Nat.sub_zero, Nat.add_sub_cancel, Nat.div_one, List.range'_succ, List.range'_zero, List.forIn_cons, List.forIn_nil]
  cases e0 : (FloatKind.f32.format.order t0 0 == some .eq)
  · go_simp
  cases e1 : (FloatKind.f32.format.order t1 0 == some .eq)
  · go_simp
  cases e2 : (FloatKind.f32.format.order t2 0 == some .eq)
  · go_simp
  cases e3 : (FloatKind.f32.format.order t3 0 == some .eq)
  · go_simp
  cases e4 : (FloatKind.f32.format.order t4 0 == some .eq)
  · go_simp
  cases e5 : (FloatKind.f32.format.order t5 0 == some .eq)
  · go_simp
  cases e6 : (FloatKind.f32.format.order t6 0 == some .eq)
  · go_simp
  cases e7 : (FloatKind.f32.format.order t7 0 == some .eq)
  · go_simp
  go_simp

theorem zw_fl {t : Nat} {X : Option Nat} (h : Fl .f32 t X) : zw t = fzero32 X := by unfold zw; rw [zero32, h.eq]
theorem all8 {b0 b1 b2 b3 b4 b5 b6 b7 : Bool} (h : (b0 && (b1 && (b2 && (b3 && (b4 && (b5 && (b6 && b7))))))) = true) : b0 = true ∧ b1 = true ∧ b2 = true ∧ b3 = true ∧ b4 = true ∧ b5 = true ∧ b6 = true ∧ b7 = true := by
  simp only [Bool.and_eq_true] at h; exact h
theorem zeros8 {L : List (Option Nat)} {k0 k : Nat} (hz : ∀ j, k0 ≤ j → j < k → fzero32 (L.getD j none) = true) (h0 : fzero32 (L.getD k none) = true) (h1 : fzero32 (L.getD (k + 1) none) = true) (h2 : fzero32 (L.getD (k + 2) none) = true) (h3 : fzero32 (L.getD (k + 3) none) = true) (h4 : fzero32 (L.getD (k + 4) none) = true) (h5 : fzero32 (L.getD (k + 5) none) = true) (h6 : fzero32 (L.getD (k + 6) none) = true) (h7 : fzero32 (L.getD (k + 7) none) = true) :
    ∀ j, k0 ≤ j → j < k + 8 → fzero32 (L.getD j none) = true := by
  intro j hj1 hj2
  rcases Nat.lt_or_ge j k with h | h
  · exact hz j hj1 h
  · rcases (show j = k ∨ j = k + 1 ∨ j = k + 2 ∨ j = k + 3 ∨ j = k + 4 ∨ j = k + 5 ∨ j = k + 6 ∨ j = k + 7 by omega) with rfl | rfl | rfl | rfl | rfl | rfl | rfl | rfl <;> assumption
theorem fsq_skips {L : List (Option Nat)} {r a : Nat} (hr : Fl .f32 r (fsq L a)) : ∀ d, (∀ j, a ≤ j → j < a + d → ∃ q, Fl .f32 q (L.getD j none) ∧ fzero32 (L.getD j none) = true) → fsq L (a + d) = fsq L a
  | 0, _ => rfl
  | d + 1, h => by
    have e := fsq_skips hr d fun j h1 h2 => h j h1 (by omega)
    obtain ⟨q, hq, hz⟩ := h (a + d) (by omega) (by omega)
    have := fsq_skip (L := L) (k := a + d) (r := r) (by rw [e]; exact hr) hq hz
    rw [← Nat.add_assoc, this, e]
theorem fsq_to {w : World} {B n : Nat} {A : Option Addr} {L : List (Option Nat)} (h : RdF w B A n L) {r a b : Nat} (hr : Fl .f32 r (fsq L a)) (hab : a ≤ b) (hb : b ≤ n) (hz : ∀ j, a ≤ j → j < b → fzero32 (L.getD j none) = true) : Fl .f32 r (fsq L b) := by
  obtain ⟨d, rfl⟩ : ∃ d, b = a + d := ⟨b - a, by omega⟩
  rw [fsq_skips hr d fun j h1 h2 => ?_]
  · exact hr
  · obtain ⟨_, _, q, _, _, _, hq⟩ := h.cell (show j < n by omega)
    exact ⟨q, hq, hz j h1 h2⟩
theorem RdF.dr {w w' : World} {B n : Nat} {A : Option Addr} {L : List (Option Nat)} (h : RdF w B A n L) (hd : Dr w w') : RdF w' B A n L := by
  obtain ⟨m, rfl⟩ := hd; exact ⟨h.len, fun k hk => h.at_ k hk⟩
theorem Dr.more {a b : World} (h : Dr a b) (n : Nat) : Dr a (b.drewN n) := by
  obtain ⟨m, rfl⟩ := h; exact ⟨m + n, World.drewN_drewN _ _ _⟩

set_option maxRecDepth 20000 in
set_option maxHeartbeats 4000000 in
theorem c_passStill {w : World} {B n c : Nat} {A : Option Addr} {L : List (Option Nat)} (h : RdF w B A n L) (hn : n ≤ 1048576) (hcap : n ≤ c) {z : Int} {k0 : Nat} (hz0 : z = (k0 : Int)) (hk0 : k0 ≤ n) :
    Calls Try.prog 98 #[.slice A n c, .int .i64 z] w fun e w' => ∃ k : Nat, e = .returned (.int .i64 (k : Int)) ∧ w = w' ∧ k0 ≤ k ∧ k ≤ n ∧ ∀ j, k0 ≤ j → j < k → fzero32 (L.getD j none) = true := by
  subst hz0
  go_enter Try.func98, Try.ntmps98
  go_wp2_with (fail)
  go_loopw [1] (fun y wr => ∃ (k : Nat), k0 ≤ k ∧ k ≤ n ∧ y = .int .i64 k ∧ wr = w ∧ ∀ j, k0 ≤ j → j < k → fzero32 (L.getD j none) = true) (fun y _ => n - (intOf y).toNat)
  case atStart => exact ⟨k0, Nat.le_refl _, hk0, rfl, rfl, fun j h1 h2 => absurd h2 (by omega)⟩
  case round =>
    obtain ⟨k, hk, hkn, rfl, rfl, hz⟩ := hrel
    have HZ := Lib.hid hz
    clear hz
    by_cases h8 : k + 8 ≤ n
    · have h8' : (k : Int) + 8 ≤ (n : Int) := by omega
      have h8c : (k : Int) + 8 ≤ (c : Int) := by omega
      have h8k : (k : Int) ≤ (k : Int) + 8 := by omega
      have ek : k + 8 - k = 8 := by omega
      obtain ⟨b, off, rfl, hb, rs, hrl, hrs⟩ := h.words (by omega)
      obtain ⟨hc0, ht0⟩ := hrs (k + 0) (by omega)
      obtain ⟨hc1, ht1⟩ := hrs (k + 1) (by omega)
      obtain ⟨hc2, ht2⟩ := hrs (k + 2) (by omega)
      obtain ⟨hc3, ht3⟩ := hrs (k + 3) (by omega)
      obtain ⟨hc4, ht4⟩ := hrs (k + 4) (by omega)
      obtain ⟨hc5, ht5⟩ := hrs (k + 5) (by omega)
      obtain ⟨hc6, ht6⟩ := hrs (k + 6) (by omega)
      obtain ⟨hc7, ht7⟩ := hrs (k + 7) (by omega)
      rw [Nat.add_zero] at hc0 ht0
      clear hrs
      generalize rs.getD k 0 = t0 at ht0 hc0
      generalize rs.getD (k + 1) 0 = t1 at ht1 hc1
      generalize rs.getD (k + 2) 0 = t2 at ht2 hc2
      generalize rs.getD (k + 3) 0 = t3 at ht3 hc3
      generalize rs.getD (k + 4) 0 = t4 at ht4 hc4
      generalize rs.getD (k + 5) 0 = t5 at ht5 hc5
      generalize rs.getD (k + 6) 0 = t6 at ht6 hc6
      generalize rs.getD (k + 7) 0 = t7 at ht7 hc7
      rw [← Nat.add_assoc] at hc1
      rw [← Nat.add_assoc] at hc2
      rw [← Nat.add_assoc] at hc3
      rw [← Nat.add_assoc] at hc4
      rw [← Nat.add_assoc] at hc5
      rw [← Nat.add_assoc] at hc6
      rw [← Nat.add_assoc] at hc7
      have hat : ∀ W, (Instr.arrayAt 74 (.slice (some ⟨b, off + k, none⟩) 8 (c - k))).run Try.prog W = .ok (.pointer (some ⟨b, off + k, none⟩)) W := fun W => run_arrayAt W 74 29 8 _ 8 (c - k) (by kernel_rfl) (Nat.le_refl _)
      cases hB : (zw t0 && (zw t1 && (zw t2 && (zw t3 && (zw t4 && (zw t5 && (zw t6 && zw t7)))))))
      · have heq := fun W => (eq_smp t0 t1 t2 t3 t4 t5 t6 t7 W).trans (by rw [hB])
        clear hB
        go_wp2_with (first | (simp only [hat]) | (simp only [heq]))
        go_ret
        exact ⟨k, rfl, rfl, hk, hkn, HZ.out⟩
      · have heq := fun W => (eq_smp t0 t1 t2 t3 t4 t5 t6 t7 W).trans (by rw [hB])
        obtain ⟨z0, z1, z2, z3, z4, z5, z6, z7⟩ := all8 hB
        rw [zw_fl ht0] at z0
        rw [zw_fl ht1] at z1
        rw [zw_fl ht2] at z2
        rw [zw_fl ht3] at z3
        rw [zw_fl ht4] at z4
        rw [zw_fl ht5] at z5
        rw [zw_fl ht6] at z6
        rw [zw_fl ht7] at z7
        have HZ2 := Lib.hid (zeros8 HZ.out z0 z1 z2 z3 z4 z5 z6 z7)
        clear hB z0 z1 z2 z3 z4 z5 z6 z7 ht0 ht1 ht2 ht3 ht4 ht5 ht6 ht7
        go_wp2_with (first | (simp only [hat]) | (simp only [heq]))
        exact ⟨⟨k + 8, by omega, by omega, by go_num, by trivial, HZ2.out⟩, by simp [intOf]; omega⟩
    · have h8' : ¬ (k : Int) + 8 ≤ (n : Int) := by omega
      go_wp2_with (fail)
      go_ret
      exact ⟨k, rfl, rfl, hk, hkn, HZ.out⟩

set_option maxRecDepth 20000 in
set_option maxHeartbeats 4000000 in
theorem c_l03Energy {w : World} {B n c : Nat} {A : Option Addr} {L : List (Option Nat)} (h : RdF w B A n L) (hn : n ≤ 1048576) :
    Calls Try.prog 60 #[.slice A n c] w fun e w' => ∃ r, e = .returned (.float .f32 r) ∧ Fl .f32 r (fsq L n) ∧ Dr w w' := by
  go_enter Try.func60, Try.ntmps60
  go_wp2_with (fail)
  go_loopw [3, 7] (fun x y wr => ∃ (k r : Nat), k ≤ n ∧ y = .int .i64 k ∧ x = .float .f32 r ∧ Fl .f32 r (fsq L k) ∧ Dr w wr) (fun _ y _ => n - (intOf y).toNat)
  case atStart => exact ⟨0, 0, Nat.zero_le _, rfl, rfl, fl_fz, 0, rfl⟩
  case round =>
    obtain ⟨k, r, hk, rfl, rfl, hr, hd⟩ := hrel
    by_cases hlt : k < n
    · have hlt' : (k : Int) < (n : Int) := by omega
      obtain ⟨b1, o1, t1, rfl, hb1, hc1, ht1⟩ := (h.dr hd).cell hlt
      have hT : fsq L (k + 1) = fop .add .f32 (fsq L k) (fop .mul .f32 (L.getD k none) (L.getD k none)) := rfl
      have HT := Lib.hid hT
      clear hT
      obtain ⟨Rm, Nm, qm, fm⟩ := fop_any (P := Try.prog) (op := .mul) rfl 29
      obtain ⟨Ra, Na, qa, fa⟩ := fop_any (P := Try.prog) (op := .add) rfl 29
      have FM := Lib.hid fm
      have FA := Lib.hid fa
      clear fm fa
      go_wp2_with (fail)
      go_region_law (fail)
      all_goals
        go_wp2_with (fail)
        exact ⟨⟨k + 1, _, by omega, by go_num, rfl, by rw [HT.out]; exact FA.out _ _ _ _ _ hr (FM.out _ _ _ _ _ ht1 ht1), hd.more _⟩, by simp [intOf]; omega⟩
    · obtain rfl : k = n := by omega
      go_wp2_with (fail)
      go_ret
      exact ⟨r, rfl, hr, hd⟩

/-- A number and a success that are returned. -/
def RetE (w : World) (e : Ending) (w' : World) (ok : Bool) (X : Option Nat) : Prop := ∃ q, e = .returned (.tuple #[.float .f32 q, .bool ok]) ∧ Fl .f32 q X ∧ ∃ m, w' = w.drewN m
def xE (ok : Bool) (X : Option Nat) : Option Nat := if ok then X else fz
theorem retE_no {w w' : World} {X : Option Nat} {f : Bool} (hf : f = false) (hd : Dr w w') : RetE w (.returned (.tuple #[.float .f32 0, .bool false])) w' f (xE f X) := by subst hf; exact ⟨0, rfl, fl_fz, hd⟩
theorem retE_yes {w w' : World} {q : Nat} {X : Option Nat} {f : Bool} (hf : f = true) (hq : Fl .f32 q X) (hd : Dr w w') : RetE w (.returned (.tuple #[.float .f32 q, .bool true])) w' f (xE f X) := by subst hf; exact ⟨q, rfl, hq, hd⟩


set_option maxRecDepth 20000 in
set_option maxHeartbeats 4000000 in
theorem c_impl_EnergyOfTrace {w : World} {B n c : Nat} {A : Option Addr} {L : List (Option Nat)} (h : RdF w B A n L) (hn : n ≤ 1048576) (hcap : n ≤ c) :
    Calls Try.prog 85 #[.slice A n c] w fun e w' => RetE w e w' (tlen n) (xE (tlen n) (fsq L n)) := by
  cases hV : tlen n
  · go_enter Try.func85, Try.ntmps85
    go_wp2_with (go_at_call 40; refine Calls.mono (c_IsTrace _ _ _ _) ?_; rw [hV]; rintro e w1 ⟨rfl, rfl⟩)
    go_ret2
    exact retE_no rfl ⟨0, rfl⟩
  go_enter Try.func85, Try.ntmps85
  go_wp2_with (first | (go_at_call 40; refine Calls.mono (c_IsTrace _ _ _ _) ?_; rw [hV]; rintro e w1 ⟨rfl, rfl⟩) | (go_at_call 98; refine Calls.mono (c_passStill h hn hcap (k0 := 0) rfl (Nat.zero_le _)) ?_; rintro e w_1 ⟨k2, rfl, rfl, hk2, hkn2, hz2⟩))
  go_loopw [4, 5] (fun x y wr => ∃ (k r : Nat), k ≤ n ∧ y = .int .i64 k ∧ x = .float .f32 r ∧ Fl .f32 r (fsq L k) ∧ Dr w wr) (fun _ y _ => n - (intOf y).toNat)
  case atStart => exact ⟨k2, 0, hkn2, rfl, rfl, fsq_to h (show Fl .f32 0 (fsq L 0) from fl_fz) hk2 hkn2 hz2, 0, rfl⟩
  case round =>
    clear hz2 hk2 hkn2
    obtain ⟨k, r, hk, rfl, rfl, hr, hd⟩ := hrel
    by_cases hlt : k < n
    · have hlt' : (k : Int) < (n : Int) := by omega
      obtain ⟨b1, o1, t1, rfl, hb1, hc1, ht1⟩ := (h.dr hd).cell hlt
      have hT : fsq L (k + 1) = fop .add .f32 (fsq L k) (fop .mul .f32 (L.getD k none) (L.getD k none)) := rfl
      have HT := Lib.hid hT
      clear hT
      go_wp2_with (fail)
      go_region_with (first | (go_at_call 51; refine Calls.mono (c_mulNumbers ht1 ht1 _) ?_; rintro e w_r5 ⟨r5, rfl, hr5, nr5, rfl⟩) | (apply upon_fop rfl; (exact hr); (exact hr5); intro r6 nr6 hr6; rw [← HT.out] at hr6))
      all_goals
        go_wp2_with (go_at_call 98; refine Calls.mono (c_passStill (RdF.dr h (hd.more _)) hn hcap (k0 := k + 1) (by omega) (by omega)) ?_; rintro e w_1 ⟨k2, rfl, rfl, hk2, hkn2, hz2⟩)
        exact ⟨⟨k2, r6, by omega, by go_num, rfl, fsq_to h hr6 hk2 hkn2 hz2, hd.more _⟩, by simp [intOf]; omega⟩
    · obtain rfl : k = n := by omega
      go_wp2_with (fail)
      go_ret2
      exact retE_yes rfl hr hd

end Go.Proofs.Ytcjddnkebdjhoaa
