/- Contracts: a layer that there is, the hardness, the cosine of a ray, on both sides. Condition: the ground is read. -/
import Derived.Test.YtkoiimjpalhgbabHd
namespace Go.Proofs.Ytkoiimjpalhgbab
open Go.RowKit Ieee

theorem LyAt.ext {w w' : World} {b o r0 r1 r2 r3 : Nat} {y : Ly} (h : LyAt w b o r0 r1 r2 r3 y) (hb : b < w.heap.size) (hx : Ext w w') : LyAt w' b o r0 r1 r2 r3 y :=
  h.keep fun p hp => hx.cell (by rw [hp]; exact hb)
/-- What is returned of a number, if there is one. -/
def saysX (ok : Bool) (raw : Option Nat) : Option Nat := if ok then numX raw else fz
def saysOk (ok : Bool) (raw : Option Nat) : Bool := ok && ffin .f32 raw
def giveX (ok : Bool) (raw : Option Nat) : Option Nat := if ok then raw else fz

set_option linter.unusedSimpArgs false in
set_option maxRecDepth 20000 in
set_option maxHeartbeats 2000000 in
theorem c_partOf_yes {w : World} {n c s d k : Nat} {A : Option Addr} {L : List Ly} {S D : Option Nat} (h : RdL w A n L) (hn : n ≤ 1048576) (fs : Fl .f32 s S) (fd : Fl .f32 d D) (hV : fvalid L S D = true) (hk : k ≤ n) :
    Calls Try.prog 110 #[.agg #[.slice A n c, .float .f32 s, .float .f32 d], .int .i64 (k : Int)] w fun e w' => ∃ r0 r1 r2 r3, e = .returned (.tuple #[.agg #[.float .f32 r0, .float .f32 r1, .float .f32 r2, .float .f32 r3], .bool true]) ∧ Fl .f32 r1 (fspeed L S k) ∧ Fl .f32 r2 (fdens L D k) ∧ Ext w w' := by
  have hl := h.len
  have hbox : GpAt (w.alloc (.cells #[.slice A n c, .float .f32 s, .float .f32 d] 31)) w.heap.size A n c s d := GpAt.blk (t := 31) (by repeat (first | (refine al_at ?_ ?_ <;> first | rfl | (simp only [al_size] <;> omega)) | apply al_old))
  by_cases hkn : k = n
  · subst hkn
    have E1 := Lib.hid (fspeed_end (S := S) hl.symm)
    have E2 := Lib.hid (fdens_end (D := D) hl.symm)
    clear hl
    have n1 : ¬ ((k : Int) < 0) := by omega
    go_enter Try.func110, Try.ntmps110
    go_wp2_with (first | (go_at_call 77; refine Calls.mono (c_ValidGround (h.ext (by repeat (first | assumption | exact Ext.refl _ | apply Ext.drewN | apply Ext.drew | apply Ext.alloc | (refine Ext.trans ?_ (by assumption)) | (refine Ext.set ?_ (by dsimp only; omega) _)))) fs fd) ?_; rw [hV]; rintro e w1 ⟨rfl, hx1⟩; have k1 := Lib.hid (hx1.blk (g := w.heap.size + 1) (o := .cells #[.float .f32 0, .float .f32 0, .float .f32 0, .float .f32 0] 85 (0, 0)) (by repeat (first | (refine al_at ?_ ?_ <;> first | rfl | (simp only [al_size] <;> omega)) | apply al_old))); obtain ⟨p0, p1, p2, _⟩ := hbox.ext (w' := w1) (by repeat (first | assumption | exact Ext.refl _ | apply Ext.drewN | apply Ext.drew | apply Ext.alloc | (refine Ext.trans ?_ (by assumption)) | (refine Ext.set ?_ (by dsimp only; omega) _)))) | (go_at_call 123; refine Calls.mono (c_belowOf _) ?_; rintro e w2 ⟨rfl, hx2⟩; obtain ⟨e0, e1, e2, e3, z0, z1, z2, z3⟩ := cells4 (hx2.blk k1.out)))
    exact bodyPost_ret (v := .tuple #[.agg #[.float .f32 0, .float .f32 s, .float .f32 d, .float .f32 0], .bool true]) (by simp [results, Try.results110, go_sem, *]) rfl
      ⟨_, _, _, _, rfl, by rw [E1.out]; exact fs, by rw [E2.out]; exact fd, (by repeat (first | assumption | exact Ext.refl _ | apply Ext.drewN | apply Ext.drew | apply Ext.alloc | (refine Ext.trans ?_ (by assumption)) | (refine Ext.set ?_ (by dsimp only; omega) _)))⟩
  · have hlt : k < n := by omega
    have E1 := Lib.hid (fspeed_at (S := S) (k := k) (L := L) (by omega))
    have E2 := Lib.hid (fdens_at (D := D) (k := k) (L := L) (by omega))
    obtain ⟨b', off, r0, r1, r2, r3, rfl, hb, hy⟩ := h.cell hlt
    clear hl
    have n1 : ¬ ((k : Int) < 0) := by omega
    have n2 : ¬ ((n : Int) < (k : Int)) := by omega
    have n3 : ¬ ((k : Int) = (n : Int)) := by omega
    have n4 : (k : Int) < (n : Int) := by omega
    go_enter Try.func110, Try.ntmps110
    go_wp2_with (go_at_call 77; refine Calls.mono (c_ValidGround (h.ext (by repeat (first | assumption | exact Ext.refl _ | apply Ext.drewN | apply Ext.drew | apply Ext.alloc | (refine Ext.trans ?_ (by assumption)) | (refine Ext.set ?_ (by dsimp only; omega) _)))) fs fd) ?_; rw [hV]; rintro e w1 ⟨rfl, hx1⟩; obtain ⟨e0, e1, e2, e3, z0, z1, z2, z3⟩ := cells4 (hx1.blk (g := w.heap.size + 1) (o := .cells #[.float .f32 0, .float .f32 0, .float .f32 0, .float .f32 0] 85 (0, 0)) (by repeat (first | (refine al_at ?_ ?_ <;> first | rfl | (simp only [al_size] <;> omega)) | apply al_old))); obtain ⟨p0, p1, p2, _⟩ := hbox.ext (w' := w1) (by repeat (first | assumption | exact Ext.refl _ | apply Ext.drewN | apply Ext.drew | apply Ext.alloc | (refine Ext.trans ?_ (by assumption)) | (refine Ext.set ?_ (by dsimp only; omega) _))); obtain ⟨y0, y1, y2, y3, _, _, _, _⟩ := hy.ext (w' := w1) hb (by repeat (first | assumption | exact Ext.refl _ | apply Ext.drewN | apply Ext.drew | apply Ext.alloc | (refine Ext.trans ?_ (by assumption)) | (refine Ext.set ?_ (by dsimp only; omega) _))))
    exact bodyPost_ret (v := .tuple #[.agg #[.float .f32 r0, .float .f32 r1, .float .f32 r2, .float .f32 r3], .bool true]) (by simp [results, Try.results110, go_sem, *]) rfl
      ⟨_, _, _, _, rfl, by rw [E1.out]; exact hy.f1, by rw [E2.out]; exact hy.f2, (by repeat (first | assumption | exact Ext.refl _ | apply Ext.drewN | apply Ext.drew | apply Ext.alloc | (refine Ext.trans ?_ (by assumption)) | (refine Ext.set ?_ (by dsimp only; omega) _)))⟩
theorem inLay_nat {i : Int} {n : Nat} (h : inLay i n = true) : ∃ k : Nat, i = k ∧ k ≤ n := by
  unfold inLay at h
  simp only [Bool.and_eq_true, decide_eq_true_eq] at h
  exact ⟨i.toNat, by omega, by omega⟩
set_option maxRecDepth 20000 in
set_option maxHeartbeats 1000000 in
theorem c_impl_HardnessAt {w : World} {n c s d : Nat} {A : Option Addr} {L : List Ly} {S D : Option Nat} (i : Int) (h : RdL w A n L) (hn : n ≤ 1048576) (fs : Fl .f32 s S) (fd : Fl .f32 d D) :
    Calls Try.prog 124 #[.agg #[.slice A n c, .float .f32 s, .float .f32 d], .int .i64 i] w fun e w' => ∃ r, e = .returned (.tuple #[.float .f32 r, .bool (saysOk (fvalid L S D && inLay i n) (fhard L S D i.toNat))]) ∧ Fl .f32 r (saysX (fvalid L S D && inLay i n) (fhard L S D i.toNat)) ∧ Ext w w' := by
  cases hB : (fvalid L S D && inLay i n)
  · simp only [saysOk, saysX, Bool.false_and, Bool.false_eq_true, if_false]
    go_enter Try.func124, Try.ntmps124
    go_wp2_with (go_at_call 110; refine Calls.mono (c_partOf_no i (h.ext (by repeat (first | assumption | exact Ext.refl _ | apply Ext.drewN | apply Ext.drew | apply Ext.alloc | (refine Ext.trans ?_ (by assumption)) | (refine Ext.set ?_ (by dsimp only; omega) _)))) fs fd hB) ?_; rintro e w1 ⟨rfl, hx1⟩)
    go_ret2
    exact ⟨_, rfl, fl_fz, (by repeat (first | assumption | exact Ext.refl _ | apply Ext.drewN | apply Ext.drew | apply Ext.alloc | (refine Ext.trans ?_ (by assumption)) | (refine Ext.set ?_ (by dsimp only; omega) _)))⟩
  · simp only [saysOk, saysX, Bool.true_and, if_true]
    obtain ⟨k, rfl, hk⟩ := inLay_nat (i := i) (n := n) (by rw [Bool.and_eq_true] at hB; exact hB.2)
    have hV : fvalid L S D = true := by rw [Bool.and_eq_true] at hB; exact hB.1
    rw [Int.toNat_natCast]
    go_enter Try.func124, Try.ntmps124
    go_wp2_with (first | (go_at_call 110; refine Calls.mono (c_partOf_yes (h.ext (by repeat (first | assumption | exact Ext.refl _ | apply Ext.drewN | apply Ext.drew | apply Ext.alloc | (refine Ext.trans ?_ (by assumption)) | (refine Ext.set ?_ (by dsimp only; omega) _)))) hn fs fd hV hk) ?_; rintro e w1 ⟨r0, r1, r2, r3, rfl, hr1, hr2, hx1⟩) | (go_at_call 82; go_in) | (apply upon_fop rfl; (first | assumption | exact Fl.const (of_decide_eq_true (by kernel_rfl))); (first | assumption | exact Fl.const (of_decide_eq_true (by kernel_rfl))); intro r n hr) | (go_at_call 71; refine Calls.mono (c_finiteNumber (X := fhard L S D k) (by assumption) _) ?_; rintro e w1 ⟨r2, rfl, hr2, n1, rfl⟩))
    go_ret2
    exact ⟨_, rfl, by assumption, (by repeat (first | assumption | exact Ext.refl _ | apply Ext.drewN | apply Ext.drew | apply Ext.alloc | (refine Ext.trans ?_ (by assumption)) | (refine Ext.set ?_ (by dsimp only; omega) _)))⟩
/-- The sine of a ray of slowness p where the speed is x. -/
def fsine (p x : Option Nat) : Option Nat := fop .mul .f32 p x
def fcosOk (L : List Ly) (S D P : Option Nat) (i : Int) (n : Nat) : Bool := (fvalid L S D && inLay i n) && (ge0 P && lt1 (fsine P (fspeed L S i.toNat)))
set_option maxRecDepth 20000 in
set_option maxHeartbeats 1000000 in
theorem c_l02Sine {w : World} {b n c s d k p : Nat} {A : Option Addr} {L : List Ly} {S P : Option Nat} (hp : GpAt w b A n c s d) (h : RdL w A n L) (fs : Fl .f32 s S) (fp : Fl .f32 p P) (hk : k ≤ n) (hn : n ≤ 1048576) :
    Calls Try.prog 101 #[.pointer (some ⟨b, 0, none⟩), .int .i64 (k : Int), .float .f32 p] w fun e w' => ∃ r, e = .returned (.float .f32 r) ∧ Fl .f32 r (fsine P (fspeed L S k)) ∧ Dr w w' := by
  go_enter Try.func101, Try.ntmps101
  go_wp2_with (first | (go_at_call 109; refine Calls.mono (c_l02Speed hp h fs hk hn) ?_; rintro e w1 ⟨r1, rfl, hr1, rfl⟩) | (apply upon_fop rfl; (first | assumption | exact Fl.const (of_decide_eq_true (by kernel_rfl))); (first | assumption | exact Fl.const (of_decide_eq_true (by kernel_rfl))); intro r n hr))
  go_ret
  exact ⟨_, rfl, by assumption, _, rfl⟩
set_option maxRecDepth 20000 in
set_option maxHeartbeats 1000000 in
theorem c_l02Cosine {w : World} {b n c s d k p : Nat} {A : Option Addr} {L : List Ly} {S P : Option Nat} (hp : GpAt w b A n c s d) (h : RdL w A n L) (fs : Fl .f32 s S) (fp : Fl .f32 p P) (hk : k ≤ n) (hn : n ≤ 1048576) :
    Calls Try.prog 100 #[.pointer (some ⟨b, 0, none⟩), .int .i64 (k : Int), .float .f32 p] w fun e w' => ∃ r, e = .returned (.tuple #[.float .f32 r, .bool (lt1 (fsine P (fspeed L S k)))]) ∧ Fl .f32 r (giveX (lt1 (fsine P (fspeed L S k))) (fcos (fsine P (fspeed L S k)))) ∧ Dr w w' := by
  have hB := c_l02Sine hp h fs fp hk hn
  generalize fsine P (fspeed L S k) = X at hB ⊢
  cases hX : lt1 X
  all_goals
    simp only [giveX, Bool.false_eq_true, if_false, if_true]
    go_enter Try.func100, Try.ntmps100
    go_wp2_with (first | (go_at_call 101; refine Calls.mono hB ?_; rintro e w1 ⟨r1, rfl, hr1, n1, rfl⟩; have hlt := hr1.olt1; rw [hX] at hlt) | (apply upon_fop rfl; (first | assumption | exact Fl.const (of_decide_eq_true (by kernel_rfl))); (first | assumption | exact Fl.const (of_decide_eq_true (by kernel_rfl))); intro r n hr) | (go_at_call 68; refine Calls.mono (c_l01Sqrt (by assumption) _) ?_; rintro e w1 ⟨r9, rfl, hr9, n1, rfl⟩))
    go_ret2
    first | exact ⟨_, rfl, fl_fz, _, rfl⟩ | exact ⟨_, rfl, by assumption, _, rfl⟩
set_option maxRecDepth 20000 in
set_option maxHeartbeats 1000000 in
theorem c_cosineOf {x p : Nat} {X P : Option Nat} (fx : Fl .f32 x X) (fp : Fl .f32 p P) (w : World) :
    Calls Try.prog 104 #[.float .f32 x, .float .f32 p] w fun e w' => ∃ r, e = .returned (.tuple #[.float .f32 r, .bool (ge0 P && lt1 (fsine P X))]) ∧ Fl .f32 r (giveX (ge0 P && lt1 (fsine P X)) (fcos (fsine P X))) ∧ Dr w w' := by
  have hge := fp.oge0
  have hsin : ∀ w0 : World, Calls Try.prog 121 #[.float .f32 x, .float .f32 p] w0 fun e w' => ∃ r, e = .returned (.float .f32 r) ∧ Fl .f32 r (fsine P X) ∧ Dr w0 w' := by
    intro w0
    go_enter Try.func121, Try.ntmps121
    go_wp2_with (first | (apply upon_fop rfl; (first | assumption | exact Fl.const (of_decide_eq_true (by kernel_rfl))); (first | assumption | exact Fl.const (of_decide_eq_true (by kernel_rfl))); intro r n hr) | go_in)
    go_ret
    exact ⟨_, rfl, by assumption, _, rfl⟩
  generalize fsine P X = Y at hsin ⊢
  cases hP : ge0 P <;> cases hX : lt1 Y
  all_goals
    rw [hP] at hge
    simp only [giveX, Bool.and_true, Bool.and_false, Bool.false_eq_true, if_false, if_true]
    go_enter Try.func104, Try.ntmps104
    go_wp2_with (first | (go_at_call 121; refine Calls.mono (hsin _) ?_; rintro e w1 ⟨r1, rfl, hr1, n1, rfl⟩; have hlt := hr1.olt1; rw [hX] at hlt) | (go_at_call 82; go_in) | (apply upon_fop rfl; (first | assumption | exact Fl.const (of_decide_eq_true (by kernel_rfl))); (first | assumption | exact Fl.const (of_decide_eq_true (by kernel_rfl))); intro r n hr) | (go_at_call 85; refine Calls.mono (c_RootNumber (by assumption) _) ?_; rintro e w1 ⟨r9, rfl, hr9, n1, rfl⟩))
    go_ret2
    first | exact ⟨_, rfl, fl_fz, _, rfl⟩ | exact ⟨_, rfl, by assumption, _, rfl⟩
end Go.Proofs.Ytkoiimjpalhgbab
