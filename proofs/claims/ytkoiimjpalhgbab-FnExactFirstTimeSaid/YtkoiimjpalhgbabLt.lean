/- Contracts: layers down to a boundary, the hardness around it, its coefficient. Condition: the ground is read. -/
import Derived.Test.YtkoiimjpalhgbabHd2
namespace Go.Proofs.Ytkoiimjpalhgbab
open Go.RowKit Ieee

theorem inBou_nat {i : Int} {n : Nat} (h : inBou i n = true) : ∃ k : Nat, i = k ∧ k + 1 ≤ n := by
  unfold inBou at h
  simp only [Bool.and_eq_true, decide_eq_true_eq] at h
  exact ⟨i.toNat, by omega, by omega⟩
theorem getD_take {L : List Ly} {j m : Nat} (h : j < m) : (L.take m).getD j default = L.getD j default := by
  simp [List.getD, h]
theorem RdL.take {w : World} {A : Option Addr} {n m : Nat} {L : List Ly} (h : RdL w A n L) (hm : m ≤ n) : RdL w A m (L.take m) :=
  ⟨by rw [List.length_take, h.len]; omega, fun k hk => by
    obtain ⟨b, off, hA, hb, hj⟩ := h.at_ k (by omega)
    exact ⟨b, off, hA, hb, fun j hjm => by rw [getD_take hjm]; exact hj j (by omega)⟩⟩

set_option linter.unusedSimpArgs false in
set_option maxRecDepth 20000 in
set_option maxHeartbeats 2000000 in
theorem c_layersTo_no {w : World} {n c s d : Nat} {A : Option Addr} {L : List Ly} {S D : Option Nat} (i : Int) (h : RdL w A n L) (fs : Fl .f32 s S) (fd : Fl .f32 d D) (hno : (fvalid L S D && inBou i n) = false) :
    Calls Try.prog 103 #[.agg #[.slice A n c, .float .f32 s, .float .f32 d], .int .i64 i] w fun e w' => e = .returned (.tuple #[.slice none 0 0, .bool false]) ∧ Ext w w' := by
  have hbox : GpAt (w.alloc (.cells #[.slice A n c, .float .f32 s, .float .f32 d] 31)) w.heap.size A n c s d := GpAt.blk (t := 31) (by repeat (first | (refine al_at ?_ ?_ <;> first | rfl | (simp only [al_size] <;> omega)) | apply al_old))
  cases hV : fvalid L S D
  · clear hno
    go_enter Try.func103, Try.ntmps103
    go_wp2_with (go_at_call 77; refine Calls.mono (c_ValidGround (h.ext (by repeat (first | assumption | exact Ext.refl _ | apply Ext.drewN | apply Ext.drew | apply Ext.alloc | (refine Ext.trans ?_ (by assumption)) | (refine Ext.set ?_ (by dsimp only; omega) _)))) fs fd) ?_; rw [hV]; rintro e w1 ⟨rfl, hx1⟩; obtain ⟨p0, p1, p2, _⟩ := hbox.ext (w' := w1) (by repeat (first | assumption | exact Ext.refl _ | apply Ext.drewN | apply Ext.drew | apply Ext.alloc | (refine Ext.trans ?_ (by assumption)) | (refine Ext.set ?_ (by dsimp only; omega) _))))
    go_ret2
    exact ⟨rfl, (by repeat (first | assumption | exact Ext.refl _ | apply Ext.drewN | apply Ext.drew | apply Ext.alloc | (refine Ext.trans ?_ (by assumption)) | (refine Ext.set ?_ (by dsimp only; omega) _)))⟩
  rw [hV, Bool.true_and] at hno
  unfold inBou at hno
  by_cases h1 : 0 ≤ i
  · rw [decide_eq_true h1, Bool.true_and] at hno
    have h2 : ¬ i ≤ (n : Int) - 1 := of_decide_eq_false hno
    have h1' : ¬ i < 0 := by omega
    have h2' : (n : Int) ≤ i := by omega
    clear hno h2 h1
    go_enter Try.func103, Try.ntmps103
    go_wp2_with (go_at_call 77; refine Calls.mono (c_ValidGround (h.ext (by repeat (first | assumption | exact Ext.refl _ | apply Ext.drewN | apply Ext.drew | apply Ext.alloc | (refine Ext.trans ?_ (by assumption)) | (refine Ext.set ?_ (by dsimp only; omega) _)))) fs fd) ?_; rw [hV]; rintro e w1 ⟨rfl, hx1⟩; obtain ⟨p0, p1, p2, _⟩ := hbox.ext (w' := w1) (by repeat (first | assumption | exact Ext.refl _ | apply Ext.drewN | apply Ext.drew | apply Ext.alloc | (refine Ext.trans ?_ (by assumption)) | (refine Ext.set ?_ (by dsimp only; omega) _))))
    go_ret2
    exact ⟨rfl, (by repeat (first | assumption | exact Ext.refl _ | apply Ext.drewN | apply Ext.drew | apply Ext.alloc | (refine Ext.trans ?_ (by assumption)) | (refine Ext.set ?_ (by dsimp only; omega) _)))⟩
  · have h1' : i < 0 := by omega
    clear hno h1
    go_enter Try.func103, Try.ntmps103
    go_wp2_with (go_at_call 77; refine Calls.mono (c_ValidGround (h.ext (by repeat (first | assumption | exact Ext.refl _ | apply Ext.drewN | apply Ext.drew | apply Ext.alloc | (refine Ext.trans ?_ (by assumption)) | (refine Ext.set ?_ (by dsimp only; omega) _)))) fs fd) ?_; rw [hV]; rintro e w1 ⟨rfl, hx1⟩; obtain ⟨p0, p1, p2, _⟩ := hbox.ext (w' := w1) (by repeat (first | assumption | exact Ext.refl _ | apply Ext.drewN | apply Ext.drew | apply Ext.alloc | (refine Ext.trans ?_ (by assumption)) | (refine Ext.set ?_ (by dsimp only; omega) _))))
    go_ret2
    exact ⟨rfl, (by repeat (first | assumption | exact Ext.refl _ | apply Ext.drewN | apply Ext.drew | apply Ext.alloc | (refine Ext.trans ?_ (by assumption)) | (refine Ext.set ?_ (by dsimp only; omega) _)))⟩

set_option maxRecDepth 20000 in
set_option maxHeartbeats 2000000 in
theorem c_layersTo_yes {w : World} {n s d k : Nat} {A : Option Addr} {L : List Ly} {S D : Option Nat} (h : RdL w A n L) (hn : n ≤ 1048576) (fs : Fl .f32 s S) (fd : Fl .f32 d D) (hV : fvalid L S D = true) (hk : k + 1 ≤ n) :
    Calls Try.prog 103 #[.agg #[.slice A n n, .float .f32 s, .float .f32 d], .int .i64 (k : Int)] w fun e w' => e = .returned (.tuple #[.slice A (k + 1) n, .bool true]) ∧ Ext w w' := by
  have hbox : GpAt (w.alloc (.cells #[.slice A n n, .float .f32 s, .float .f32 d] 31)) w.heap.size A n n s d := GpAt.blk (t := 31) (by repeat (first | (refine al_at ?_ ?_ <;> first | rfl | (simp only [al_size] <;> omega)) | apply al_old))
  obtain ⟨b', off, r0, r1, r2, r3, rfl, hb, hy⟩ := h.cell (k := k) (by omega)
  have n1 : ¬ ((k : Int) < 0) := by omega
  have n2 : ¬ ((n : Int) ≤ (k : Int)) := by omega
  have n3 : (k : Int) + 1 ≤ (n : Int) := by omega
  have n4 : (k : Int) < (n : Int) := by omega
  have n5 : 0 ≤ (k : Int) + 1 := by omega
  have n6 : ((k : Int) + 1).toNat = k + 1 := by omega
  go_enter Try.func103, Try.ntmps103
  go_wp2_with (go_at_call 77; refine Calls.mono (c_ValidGround (h.ext (by repeat (first | assumption | exact Ext.refl _ | apply Ext.drewN | apply Ext.drew | apply Ext.alloc | (refine Ext.trans ?_ (by assumption)) | (refine Ext.set ?_ (by dsimp only; omega) _)))) fs fd) ?_; rw [hV]; rintro e w1 ⟨rfl, hx1⟩; obtain ⟨p0, p1, p2, _⟩ := hbox.ext (w' := w1) (by repeat (first | assumption | exact Ext.refl _ | apply Ext.drewN | apply Ext.drew | apply Ext.alloc | (refine Ext.trans ?_ (by assumption)) | (refine Ext.set ?_ (by dsimp only; omega) _))))
  go_ret2
  exact ⟨rfl, (by repeat (first | assumption | exact Ext.refl _ | apply Ext.drewN | apply Ext.drew | apply Ext.alloc | (refine Ext.trans ?_ (by assumption)) | (refine Ext.set ?_ (by dsimp only; omega) _)))⟩

theorem read_inf (s : Bool) : FloatKind.f32.format.read (FloatKind.f32.format.write (.infinity s)) = .infinity s := by cases s <;> decide +kernel
/-- What is not finite above or below a boundary gives no coefficient. -/
theorem straight_none (a b : Option Nat) (h : (ffin .f32 a && ffin .f32 b) = false) : fop .quo .f32 (fop .sub .f32 b a) (fop .add .f32 b a) = none := by
  cases a with
  | none => cases b <;> rfl
  | some x =>
    cases b with
    | none => rfl
    | some y =>
      have hs : fop .sub .f32 (some y) (some x) = ((FloatKind.f32.format.read y).sum (FloatKind.f32.format.read x).opposite).map FloatKind.f32.format.write := rfl
      have ha : fop .add .f32 (some y) (some x) = ((FloatKind.f32.format.read y).sum (FloatKind.f32.format.read x)).map FloatKind.f32.format.write := rfl
      have hq : ∀ p q, fop .quo .f32 (some p) (some q) = ((FloatKind.f32.format.read p).quotient (FloatKind.f32.format.fractionBits + 2) (FloatKind.f32.format.read q)).map FloatKind.f32.format.write := fun _ _ => rfl
      have hx : ffin .f32 (some x) = !(FloatKind.f32.format.read x).isInfinity := rfl
      have hy : ffin .f32 (some y) = !(FloatKind.f32.format.read y).isInfinity := rfl
      rw [hx, hy] at h
      rw [hs, ha]
      cases hrx : FloatKind.f32.format.read x with
      | nan u v => cases FloatKind.f32.format.read y <;> rfl
      | number u v z =>
        rw [hrx] at h
        cases hry : FloatKind.f32.format.read y with
        | nan u' v' => rfl
        | number u' v' z' => rw [hry] at h; simp [Datum.isInfinity] at h
        | infinity t =>
          simp only [Datum.opposite, Datum.sum, Option.map_some, hq, read_inf, Datum.quotient, Option.map_none]
      | infinity s =>
        cases hry : FloatKind.f32.format.read y with
        | nan u' v' => rfl
        | number u' v' z' =>
          simp only [Datum.opposite, Datum.sum, Option.map_some, hq, read_inf, Datum.quotient, Option.map_none]
        | infinity t =>
          cases s <;> cases t <;> rfl

def fstraight (L : List Ly) (S D : Option Nat) (k : Nat) : Option Nat := fop .quo .f32 (fop .sub .f32 (fhard L S D (k + 1)) (fhard L S D k)) (fop .add .f32 (fhard L S D (k + 1)) (fhard L S D k))
set_option maxRecDepth 20000 in
set_option maxHeartbeats 1000000 in
theorem c_l02Straight {w : World} {b n c s d k : Nat} {A : Option Addr} {L : List Ly} {S D : Option Nat} (hp : GpAt w b A n c s d) (h : RdL w A n L) (fs : Fl .f32 s S) (fd : Fl .f32 d D) (hk : k + 1 ≤ n) (hn : n ≤ 1048576) :
    Calls Try.prog 79 #[.pointer (some ⟨b, 0, none⟩), .int .i64 (k : Int)] w fun e w' => ∃ r, e = .returned (.float .f32 r) ∧ Fl .f32 r (fstraight L S D k) ∧ Dr w w' := by
  have hh : ∀ (i : Int) (j : Nat), i = (j : Int) → j ≤ n → ∀ W : World, Ext w W → Calls Try.prog 112 #[.pointer (some ⟨b, 0, none⟩), .int .i64 i] W fun e w' => ∃ r, e = .returned (.float .f32 r) ∧ Fl .f32 r (fhard L S D j) ∧ Dr W w' := by
    intro i j hi hj W hx
    rw [hi]
    exact c_l02Hard (hp.ext hx) (h.ext hx) fs fd hj hn
  have n3 : (k : Int) + 1 ≤ (n : Int) := by omega
  have n4 : (k : Int) < (n : Int) := by omega
  go_enter Try.func79, Try.ntmps79
  go_wp2_with (first | (go_at_call 112; refine Calls.mono (hh _ _ (by first | exact (Int.natCast_add _ 1).symm | exact rfl) (by omega) _ (by repeat (first | assumption | exact Ext.refl _ | apply Ext.drewN | apply Ext.drew | apply Ext.alloc | (refine Ext.trans ?_ (by assumption)) | (refine Ext.set ?_ (by dsimp only; omega) _)))) ?_; rintro e w1 ⟨r1, rfl, hr1, n1, rfl⟩) | (apply upon_fop rfl; (first | assumption | exact Fl.const (of_decide_eq_true (by kernel_rfl))); (first | assumption | exact Fl.const (of_decide_eq_true (by kernel_rfl))); intro r n hr))
  go_ret
  exact ⟨_, rfl, by assumption, _, rfl⟩
end Go.Proofs.Ytkoiimjpalhgbab
