/- Contracts: spectra at one frequency, on both sides. Condition: the list is read. -/
import Derived.Test.YthgmkipifolbfacPh3
import Derived.Test.YthgmkipifolbfacCy
import Derived.Test.YthgmkipifolbfacTn
import Derived.Test.YthgmkipifolbfacTr
import Derived.Test.YthgmkipifolbfacTl
import Derived.Deep.RegionHeld
namespace Go.Proofs.Ythgmkipifolbfac
open Go.RowKit Ieee

/-- The turns of the number k. -/
def fback (T : Option Nat) (k : Nat) : Option Nat := fneg (fop .mul .f64 (fl .f64 (floatOfInt .f64 (k : Int))) (fconv .f32 .f64 T))
/-- A sum of one part of what is turned. -/
def csm (R : Nat → Option Nat) (L : List (Option Nat)) : Nat → Option Nat
  | 0 => fz
  | k + 1 => fop .add .f32 (csm R L k) (fop .mul .f32 (R k) (L.getD k none))
theorem fl_int64 (i : Int) : Fl .f64 (floatOfInt .f64 i) (fl .f64 (floatOfInt .f64 i)) := ⟨rfl, FloatKind.f64.format.write_lt (.number (i < 0) i.natAbs 0)⟩
def RetC (w : World) (e : Ending) (w' : World) (ok : Bool) (X Y : Option Nat) : Prop := ∃ r i, e = .returned (.tuple #[.complex .f32 r i, .bool ok]) ∧ Fl .f32 r X ∧ Fl .f32 i Y ∧ Dr w w'
def xC (ok : Bool) (X : Option Nat) : Option Nat := if ok then X else fz
theorem retC_no {w w' : World} {X Y : Option Nat} {f : Bool} (hf : f = false) (hd : Dr w w') : RetC w (.returned (.tuple #[.complex .f32 0 0, .bool false])) w' f (xC f X) (xC f Y) := by subst hf; exact ⟨0, 0, rfl, fl_fz, fl_fz, hd⟩
theorem retC_yes {w w' : World} {r i : Nat} {X Y : Option Nat} {f : Bool} (hf : f = true) (hr : Fl .f32 r X) (hi : Fl .f32 i Y) (hd : Dr w w') : RetC w (.returned (.tuple #[.complex .f32 r i, .bool true])) w' f (xC f X) (xC f Y) := by subst hf; exact ⟨r, i, rfl, hr, hi, hd⟩

section
variable {P : Program}
theorem fop_any64 {op : BinOp} (hop : isArith op = true) (t : TypeId) :
    ∃ (R N : Nat → Nat → World → Nat), (∀ x y w, (binOp op t (.float .f64 x) (.float .f64 y)).run P w = .ok (.float .f64 (R x y w)) (w.drewN (N x y w))) ∧ ∀ x y w X Y, Fl .f64 x X → Fl .f64 y Y → Fl .f64 (R x y w) (fop op .f64 X Y) := by
  have h := fun (x y : Nat) (w : World) => run_fop (P := P) w op hop t .f64 x y
  refine ⟨fun x y w => (h x y w).choose, fun x y w => (h x y w).choose_spec.choose, fun x y w => (h x y w).choose_spec.choose_spec.1, ?_⟩
  intro x y w X Y hx hy
  obtain ⟨_, h2, h3⟩ := (h x y w).choose_spec.choose_spec
  exact ⟨h2.trans (by rw [hx.eq, hy.eq]), h3⟩
theorem wide_any {src dst : TypeId} (hs : (P.underlying src).isSome = true) (hd : P.underlying dst = some (.float .f64)) {x : Nat} {X : Option Nat} (hx : Fl .f32 x X) :
    ∃ (R N : World → Nat), (∀ w, (convert src dst (.float .f32 x)).run P w = .ok (.float .f64 (R w)) (w.drewN (N w))) ∧ ∀ w, Fl .f64 (R w) (fconv .f32 .f64 X) := by
  have h := fun w : World => run_fconv (P := P) w src dst .f32 .f64 x hx.lt hs hd (by exact fits_wide x)
  refine ⟨fun w => (h w).choose, fun w => (h w).choose_spec.choose, fun w => (h w).choose_spec.choose_spec.1, fun w => ?_⟩
  obtain ⟨_, h2, h3⟩ := (h w).choose_spec.choose_spec
  exact ⟨h2.trans (by rw [hx.eq]), h3⟩
theorem csum_any (t : TypeId) :
    ∃ (R I N : Nat → Nat → Nat → Nat → World → Nat), (∀ a b c d w, (binOp .add t (.complex .f32 a b) (.complex .f32 c d)).run P w = .ok (.complex .f32 (R a b c d w) (I a b c d w)) (w.drewN (N a b c d w))) ∧
      ∀ a b c d w X Y Z V, Fl .f32 a X → Fl .f32 b Y → Fl .f32 c Z → Fl .f32 d V → Fl .f32 (R a b c d w) (fop .add .f32 X Z) ∧ Fl .f32 (I a b c d w) (fop .add .f32 Y V) := by
  have h : ∀ (a b c d : Nat) (w : World), ∃ q : Nat × Nat × Nat, (binOp .add t (.complex .f32 a b) (.complex .f32 c d)).run P w = .ok (.complex .f32 q.1 q.2.1) (w.drewN q.2.2) ∧ ∀ X Y Z V, Fl .f32 a X → Fl .f32 b Y → Fl .f32 c Z → Fl .f32 d V → Fl .f32 q.1 (fop .add .f32 X Z) ∧ Fl .f32 q.2.1 (fop .add .f32 Y V) := by
    intro a b c d w
    obtain ⟨x, n, h1, h2, h3⟩ := run_carith_any (P := P) w .add rfl .f32 a c
    obtain ⟨y, m, k1, k2, k3⟩ := run_carith_any (P := P) (w.drewN n) .add rfl .f32 b d
    rw [drewN_drewN] at k1
    refine ⟨(x, y, n + m), by simp [binOp, Op.complexOp, h1, k1], ?_⟩
    intro X Y Z V hX hY hZ hV
    exact ⟨⟨by rw [h2, hX.eq, hZ.eq], h3⟩, ⟨by rw [k2, hY.eq, hV.eq], k3⟩⟩
  refine ⟨fun a b c d w => (h a b c d w).choose.1, fun a b c d w => (h a b c d w).choose.2.1, fun a b c d w => (h a b c d w).choose.2.2, fun a b c d w => (h a b c d w).choose_spec.1, ?_⟩
  intro a b c d w X Y Z V hX hY hZ hV
  exact (h a b c d w).choose_spec.2 X Y Z V hX hY hZ hV
end

set_option maxRecDepth 20000 in
set_option maxHeartbeats 400000 in
theorem c_impl_Scale {a b x : Nat} {X Y Z : Option Nat} (ha : Fl .f32 a X) (hb : Fl .f32 b Y) (hx : Fl .f32 x Z) (w : World) :
    Calls Try.prog 94 #[.complex .f32 a b, .float .f32 x] w fun e w' => ∃ r i, e = .returned (.complex .f32 r i) ∧ Fl .f32 r (fop .mul .f32 X Z) ∧ Fl .f32 i (fop .mul .f32 Y Z) ∧ Dr w w' := by
  go_enter Try.func94, Try.ntmps94
  go_wp2_with (first | (go_at_call_of 121 a; refine Calls.mono (c_mulNumbers ha hx _) ?_; rintro e w_1 ⟨r1, rfl, hr1, n1, rfl⟩) | (go_at_call_of 121 b; refine Calls.mono (c_mulNumbers hb hx _) ?_; rintro e w_2 ⟨r2, rfl, hr2, n2, rfl⟩))
  go_ret
  exact ⟨_, _, rfl, hr1, hr2, _, rfl⟩
set_option maxRecDepth 20000 in
set_option maxHeartbeats 400000 in
theorem c_l01Scale {a b x : Nat} {X Y Z : Option Nat} (ha : Fl .f32 a X) (hb : Fl .f32 b Y) (hx : Fl .f32 x Z) (w : World) :
    Calls Try.prog 152 #[.complex .f32 a b, .float .f32 x] w fun e w' => ∃ r i, e = .returned (.complex .f32 r i) ∧ Fl .f32 r (fop .mul .f32 X Z) ∧ Fl .f32 i (fop .mul .f32 Y Z) ∧ Dr w w' := by
  go_enter Try.func152, Try.ntmps152
  go_wp2_with (first | (refine upon_fop (op := .mul) rfl ha hx ?_; intro r1 n1 hr1) | (refine upon_fop (op := .mul) rfl hb hx ?_; intro r2 n2 hr2))
  go_ret
  exact ⟨_, _, rfl, hr1, hr2, _, rfl⟩

set_option maxRecDepth 20000 in
set_option maxHeartbeats 1000000 in
theorem c_impl_SpectrumAt {w : World} {B n c : Nat} {A : Option Addr} {L : List (Option Nat)} (h : RdF w B A n L) (hn : n ≤ 1048576) {p : Nat} {T : Option Nat} (fp : Fl .f32 p T) {R I : Nat → Option Nat} (hcs : ∀ k, PhCase (fback T k) (R k) (I k)) :
    Calls Try.prog 20 #[.slice A n c, .float .f32 p] w fun e w' => RetC w e w' (tlen n && ffin .f32 T) (xC (tlen n && ffin .f32 T) (csm R L n)) (xC (tlen n && ffin .f32 T) (csm I L n)) := by
  cases hV : tlen n
  · go_enter Try.func20, Try.ntmps20
    go_wp2_with (go_at_call 92; refine Calls.mono (c_IsTrace _ _ _ _) ?_; rw [hV]; rintro e w1 ⟨rfl, rfl⟩)
    go_ret2
    exact retC_no rfl ⟨0, rfl⟩
  rw [Bool.true_and]
  cases hW : ffin .f32 T
  · go_enter Try.func20, Try.ntmps20
    go_wp2_with (first | (go_at_call 92; refine Calls.mono (c_IsTrace _ _ _ _) ?_; rw [hV]; rintro e w1 ⟨rfl, rfl⟩) | (go_at_call 93; refine Calls.mono (c_impl_IsFinite fp _) ?_; rw [hW]; rintro e w1 ⟨rfl, n0, rfl⟩))
    go_ret2
    exact retC_no rfl ⟨_, rfl⟩
  have HCS := Lib.hid hcs
  clear hcs
  go_enter Try.func20, Try.ntmps20
  go_wp2_with (first | (go_at_call 92; refine Calls.mono (c_IsTrace _ _ _ _) ?_; rw [hV]; rintro e w1 ⟨rfl, rfl⟩) | (go_at_call 93; refine Calls.mono (c_impl_IsFinite fp _) ?_; rw [hW]; rintro e w1 ⟨rfl, n0, rfl⟩))
  go_loopw [6, 20] (fun s y wr => ∃ (k r i : Nat), k ≤ n ∧ y = .int .i64 k ∧ s = .complex .f32 r i ∧ Fl .f32 r (csm R L k) ∧ Fl .f32 i (csm I L k) ∧ Dr w wr) (fun _ y _ => n - (intOf y).toNat)
  case atStart => exact ⟨0, _, _, Nat.zero_le _, rfl, rfl, fl_fz, fl_fz, _, rfl⟩
  case round =>
    obtain ⟨k, r, i, hk, rfl, rfl, hr, hi, q, rfl⟩ := hrel
    by_cases hlt : k < n
    · have hlt' : (k : Int) < (n : Int) := by omega
      obtain ⟨b1, o1, t1, rfl, hb1, hc1, ht1⟩ := h.cell hlt
      go_wp2_with (first | (apply upon_wide s_f32 Try.underlying22; (exact fp); intro r1 n1 hr1) | (apply upon_fop rfl; (exact fl_int64 _); (exact hr1); intro r2 n2 hr2) | (go_at_call 16; refine Calls.mono (c_impl_PhasorOf (fneg_fl hr2) (HCS.out k) _) ?_; rintro e w_1 ⟨r3, i3, rfl, hr3, hi3, n3, rfl⟩) | (go_at_call 94; refine Calls.mono (c_impl_Scale hr3 hi3 ht1 _) ?_; rintro e w_2 ⟨r4, i4, rfl, hr4, hi4, n4, rfl⟩) | (apply upon_csum (Or.inl rfl); (exact hr); (exact hi); (exact hr4); (exact hi4); intro r5 i5 n5 hr5 hi5))
      exact ⟨⟨k + 1, _, _, by omega, by go_num, rfl, hr5, hi5, _, rfl⟩, by simp [intOf]; omega⟩
    · obtain rfl : k = n := by omega
      go_wp2_with (fail)
      go_ret2
      exact retC_yes rfl hr hi ⟨_, rfl⟩
set_option maxRecDepth 20000 in
set_option maxHeartbeats 1000000 in
theorem c_l03Spectrum {w : World} {B n c : Nat} {A : Option Addr} {L : List (Option Nat)} (h : RdF w B A n L) (hn : n ≤ 1048576) {p : Nat} {T : Option Nat} (fp : Fl .f32 p T) {R I : Nat → Option Nat} (hcs : ∀ k, PhCase (fback T k) (R k) (I k)) :
    Calls Try.prog 91 #[.slice A n c, .float .f32 p] w fun e w' => ∃ r i, e = .returned (.complex .f32 r i) ∧ Fl .f32 r (csm R L n) ∧ Fl .f32 i (csm I L n) ∧ Dr w w' := by
  have HCS := Lib.hid hcs
  clear hcs
  obtain ⟨Rm, Nm, qm, fm⟩ := fop_any64 (P := Try.prog) (op := .mul) rfl 22
  have FM := Lib.hid fm
  obtain ⟨Rw, Nw, qw, fw⟩ := wide_any (P := Try.prog) s_f32 Try.underlying22 fp
  have FW := Lib.hid fw
  obtain ⟨Rs, Is, Ns, qs, fs⟩ := csum_any (P := Try.prog) 23
  have FS := Lib.hid fs
  clear fm fw fs
  go_enter Try.func91, Try.ntmps91
  go_wp2_with (fail)
  go_loopw [5, 9] (fun s y wr => ∃ (k r i : Nat), k ≤ n ∧ y = .int .i64 k ∧ s = .complex .f32 r i ∧ Fl .f32 r (csm R L k) ∧ Fl .f32 i (csm I L k) ∧ Dr w wr) (fun _ y _ => n - (intOf y).toNat)
  case atStart => exact ⟨0, _, _, Nat.zero_le _, rfl, rfl, fl_fz, fl_fz, 0, rfl⟩
  case round =>
    obtain ⟨k, r, i, hk, rfl, rfl, hr, hi, q, rfl⟩ := hrel
    by_cases hlt : k < n
    · have hlt' : (k : Int) < (n : Int) := by omega
      obtain ⟨b1, o1, t1, rfl, hb1, hc1, ht1⟩ := h.cell hlt
      go_wp2_with (fail)
      go_region_held (fun W => W.cell? ⟨b1, o1 + k, none⟩ = some (.float .f32 t1)) (exact hc1) (first | (go_at_call 81; refine Calls.mono (c_l01Phasor (fneg_fl (FM.out _ _ _ _ _ (fl_int64 _) (FW.out _))) (HCS.out k) _) ?_; rintro e w_1 ⟨r3, i3, rfl, hr3, hi3, n3, rfl⟩) | (go_at_call 152; refine Calls.mono (c_l01Scale hr3 hi3 ht1 _) ?_; rintro e w_2 ⟨r4, i4, rfl, hr4, hi4, n4, rfl⟩))
      all_goals
        go_wp2_with (fail)
        exact ⟨⟨k + 1, _, _, by omega, by go_num, rfl, (FS.out _ _ _ _ _ _ _ _ _ hr hi hr4 hi4).1, (FS.out _ _ _ _ _ _ _ _ _ hr hi hr4 hi4).2, _, rfl⟩, by simp [intOf]; omega⟩
    · obtain rfl : k = n := by omega
      go_wp2_with (fail)
      go_ret
      exact ⟨_, _, rfl, hr, hi, _, rfl⟩
set_option maxRecDepth 20000 in
set_option maxHeartbeats 1000000 in
theorem c_spec_SpectrumAt {w : World} {B n c : Nat} {A : Option Addr} {L : List (Option Nat)} (h : RdF w B A n L) (hn : n ≤ 1048576) {p : Nat} {T : Option Nat} (fp : Fl .f32 p T) {R I : Nat → Option Nat} (hcs : ∀ k, PhCase (fback T k) (R k) (I k)) :
    Calls Try.prog 18 #[.slice A n c, .float .f32 p] w fun e w' => RetC w e w' (tlen n && ffin .f32 T) (xC (tlen n && ffin .f32 T) (csm R L n)) (xC (tlen n && ffin .f32 T) (csm I L n)) := by
  cases hV : tlen n
  · go_enter Try.func18, Try.ntmps18
    go_wp2_with (go_at_call 89; refine Calls.mono (c_l03Is _ _ _ _) ?_; rw [hV]; rintro e w1 ⟨rfl, rfl⟩)
    go_ret2
    exact retC_no rfl ⟨0, rfl⟩
  rw [Bool.true_and]
  cases hW : ffin .f32 T
  · go_enter Try.func18, Try.ntmps18
    go_wp2_with (first | (go_at_call 89; refine Calls.mono (c_l03Is _ _ _ _) ?_; rw [hV]; rintro e w1 ⟨rfl, rfl⟩) | (go_at_call 90; refine Calls.mono (c_l01Finite fp _) ?_; rw [hW]; rintro e w1 ⟨rfl, n0, rfl⟩))
    go_ret2
    exact retC_no rfl ⟨_, rfl⟩
  have HCS := Lib.hid hcs
  clear hcs
  go_enter Try.func18, Try.ntmps18
  go_wp2_with (first | (go_at_call 89; refine Calls.mono (c_l03Is _ _ _ _) ?_; rw [hV]; rintro e w1 ⟨rfl, rfl⟩) | (go_at_call 90; refine Calls.mono (c_l01Finite fp _) ?_; rw [hW]; rintro e w1 ⟨rfl, n0, rfl⟩) | (go_at_call 91; refine Calls.mono (c_l03Spectrum (h.drewN _) hn fp HCS.out) ?_; rintro e w2 ⟨r, i, rfl, hr, hi, n2, rfl⟩))
  go_ret2
  exact retC_yes rfl hr hi ⟨_, rfl⟩
end Go.Proofs.Ythgmkipifolbfac
