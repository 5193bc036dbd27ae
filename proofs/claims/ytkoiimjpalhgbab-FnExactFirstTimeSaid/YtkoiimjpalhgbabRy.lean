/- Contracts: rays to a boundary, and back, on both sides. Condition: the ground is read. -/
import Derived.Test.YtkoiimjpalhgbabLt
import Derived.Deep.RegionWith
namespace Go.Proofs.Ytkoiimjpalhgbab
open Go.RowKit Ieee

def legT (P : Option Nat) (y : Ly) : Option Nat := fop .quo .f32 y.t (fop .mul .f32 y.s (fcos (fsine P y.s)))
def legW (P : Option Nat) (y : Ly) : Option Nat := fop .quo .f32 (fop .mul .f32 y.t (fsine P y.s)) (fcos (fsine P y.s))
def rayT (L : List Ly) (P : Option Nat) : Nat → Option Nat
  | 0 => fz
  | j + 1 => fop .add .f32 (rayT L P j) (legT P (L.getD j default))
def rayW (L : List Ly) (P : Option Nat) : Nat → Option Nat
  | 0 => fz
  | j + 1 => fop .add .f32 (rayW L P j) (legW P (L.getD j default))
/-- The ray comes through the first layers. -/
def rayC (L : List Ly) (P : Option Nat) : Nat → Bool
  | 0 => true
  | j + 1 => rayC L P j && lt1 (fsine P (L.getD j default).s)
def rayFin (L : List Ly) (P : Option Nat) (m : Nat) : Bool := ffin .f32 (rayT L P m) && ffin .f32 (rayW L P m)
theorem rayC_no {L : List Ly} {P : Option Nat} {j : Nat} (h : lt1 (fsine P (L.getD j default).s) = false) : ∀ m, j < m → rayC L P m = false
  | m + 1, hm => by
    unfold rayC
    by_cases hj : j = m
    · subst hj; rw [h]; simp
    · rw [rayC_no h m (by omega)]; rfl
theorem ray_take (L : List Ly) (P : Option Nat) (m : Nat) : ∀ j, j ≤ m → rayT (L.take m) P j = rayT L P j ∧ rayW (L.take m) P j = rayW L P j ∧ rayC (L.take m) P j = rayC L P j
  | 0, _ => ⟨rfl, rfl, rfl⟩
  | j + 1, hj => by
    obtain ⟨h1, h2, h3⟩ := ray_take L P m j (by omega)
    unfold rayT rayW rayC
    rw [h1, h2, h3, getD_take (by omega)]
    exact ⟨rfl, rfl, rfl⟩

set_option maxRecDepth 20000 in
set_option maxHeartbeats 4000000 in
theorem c_l02Ray {w : World} {b n c s d k p : Nat} {A : Option Addr} {L : List Ly} {S P : Option Nat} (hp : GpAt w b A n c s d) (h : RdL w A n L) (fs : Fl .f32 s S) (fp : Fl .f32 p P) (hk : k + 1 ≤ n) (hn : n ≤ 1048576) :
    Calls Try.prog 53 #[.pointer (some ⟨b, 0, none⟩), .int .i64 (k : Int), .float .f32 p] w fun e w' => ∃ r q, e = .returned (.tuple #[.float .f32 r, .float .f32 q, .bool (rayC L P (k + 1) && rayFin L P (k + 1))]) ∧ Fl .f32 r (giveX (rayC L P (k + 1)) (rayT L P (k + 1))) ∧ Fl .f32 q (giveX (rayC L P (k + 1)) (rayW L P (k + 1))) ∧ Dr w w' := by
  have hl := Lib.hid h.len
  have p0 := hp.c0
  go_enter Try.func53, Try.ntmps53
  go_wp2_with (fail)
  go_loopw [9, 10, 11] (fun tm wy i wr => ∃ j r q : Nat, j ≤ k + 1 ∧ i = .int .i64 j ∧ tm = .float .f32 r ∧ Fl .f32 r (rayT L P j) ∧ wy = .float .f32 q ∧ Fl .f32 q (rayW L P j) ∧ rayC L P j = true ∧ Dr w wr) (fun _ _ i _ => k + 1 - (intOf i).toNat)
  case atStart => exact ⟨0, 0, 0, Nat.zero_le _, rfl, rfl, fl_fz, rfl, fl_fz, rfl, 0, rfl⟩
  case round =>
    obtain ⟨j, r, q, hj, rfl, rfl, hr, rfl, hq, hc, m, rfl⟩ := hrel
    have HC := Lib.hid hc
    clear hc
    by_cases hlt : j < k + 1
    · obtain ⟨b', off, r0, r1, r2, r3, rfl, hb, hy⟩ := h.cell (k := j) (by omega)
      have hcos : ∀ W, Ext w W → Calls Try.prog 100 #[.pointer (some ⟨b, 0, none⟩), .int .i64 (j : Int), .float .f32 p] W fun e w' => ∃ r, e = .returned (.tuple #[.float .f32 r, .bool (lt1 (fsine P (L.getD j default).s))]) ∧ Fl .f32 r (giveX (lt1 (fsine P (L.getD j default).s)) (fcos (fsine P (L.getD j default).s))) ∧ Dr W w' := fun W hx => by
        have := c_l02Cosine (k := j) (hp.ext hx) (h.ext hx) fs fp (by omega) hn
        rwa [fspeed_at (S := S) (by have := hl.out; omega)] at this
      have hsin : ∀ W, Ext w W → Calls Try.prog 101 #[.pointer (some ⟨b, 0, none⟩), .int .i64 (j : Int), .float .f32 p] W fun e w' => ∃ r, e = .returned (.float .f32 r) ∧ Fl .f32 r (fsine P (L.getD j default).s) ∧ Dr W w' := fun W hx => by
        have := c_l02Sine (k := j) (hp.ext hx) (h.ext hx) fs fp (by omega) hn
        rwa [fspeed_at (S := S) (by have := hl.out; omega)] at this
      have hT : rayT L P (j + 1) = fop .add .f32 (rayT L P j) (legT P (L.getD j default)) := rfl
      have hW : rayW L P (j + 1) = fop .add .f32 (rayW L P j) (legW P (L.getD j default)) := rfl
      have hC : rayC L P (j + 1) = (rayC L P j && lt1 (fsine P (L.getD j default).s)) := rfl
      have hno : lt1 (fsine P (L.getD j default).s) = false → rayC L P (k + 1) = false := fun hf => rayC_no hf (k + 1) hlt
      generalize L.getD j default = y at hy hcos hsin hT hW hC hno
      have HT := Lib.hid hT
      have HW := Lib.hid hW
      have HCC := Lib.hid hC
      have HNO := Lib.hid hno
      clear hT hW hC hno
      have hc0 := hy.c0
      have hc1 := hy.c1
      have q0 := hy.f0
      have q1 := hy.f1
      have n1 : (j : Int) ≤ (k : Int) := by omega
      have n2 : (j : Int) < (n : Int) := by omega
      cases hX : lt1 (fsine P y.s)
      · have hend := Lib.hid (HNO.out hX)
        go_wp2_with (go_at_call 100; refine Calls.mono (hcos _ (by repeat (first | assumption | exact Ext.refl _ | apply Ext.drewN | apply Ext.drew | apply Ext.alloc | (refine Ext.trans ?_ (by assumption)) | (refine Ext.set ?_ (by dsimp only; omega) _)))) ?_; rw [hX]; rintro e w1 ⟨r9, rfl, hr9, n9, rfl⟩)
        exact bodyPost_ret (v := .tuple #[.float .f32 0, .float .f32 0, .bool false]) (by simp [results, Try.results53, go_sem]) rfl ⟨0, 0, by rw [hend.out]; rfl, by rw [hend.out]; exact fl_fz, by rw [hend.out]; exact fl_fz, _, rfl⟩
      · go_wp2_with (go_at_call 100; refine Calls.mono (hcos _ (by repeat (first | assumption | exact Ext.refl _ | apply Ext.drewN | apply Ext.drew | apply Ext.alloc | (refine Ext.trans ?_ (by assumption)) | (refine Ext.set ?_ (by dsimp only; omega) _)))) ?_; rw [hX]; rintro e w1 ⟨r9, rfl, hr9, n9, rfl⟩; simp only [giveX, if_true] at hr9)
        go_region_with ((apply upon_fop rfl; (first | assumption | exact Fl.const (of_decide_eq_true (by kernel_rfl))); (first | assumption | exact Fl.const (of_decide_eq_true (by kernel_rfl))); intro r n hr))
        all_goals
          go_wp2_with (fail)
          go_region_with (first | (go_at_call 101; refine Calls.mono (hsin _ (by repeat (first | assumption | exact Ext.refl _ | apply Ext.drewN | apply Ext.drew | apply Ext.alloc | (refine Ext.trans ?_ (by assumption)) | (refine Ext.set ?_ (by dsimp only; omega) _)))) ?_; rintro e w1 ⟨r8, rfl, hr8, n9, rfl⟩) | (apply upon_fop rfl; (first | assumption | exact Fl.const (of_decide_eq_true (by kernel_rfl))); (first | assumption | exact Fl.const (of_decide_eq_true (by kernel_rfl))); intro r n hr))
          all_goals
            go_wp2_with (fail)
            exact ⟨⟨j + 1, _, _, by omega, by go_num, rfl, by rw [HT.out]; assumption, rfl, by rw [HW.out]; assumption, by rw [HCC.out, HC.out, hX]; rfl, _, rfl⟩, by simp [intOf]; omega⟩
    · have hjk : j = k + 1 := by omega
      subst hjk
      have n1 : ¬ ((k : Int) + 1 ≤ (k : Int)) := by omega
      have n2 : (k : Int) < ((k + 1 : Nat) : Int) := by omega
      have e1 : giveX (rayC L P (k + 1)) (rayT L P (k + 1)) = rayT L P (k + 1) := by rw [HC.out]; rfl
      have e2 : giveX (rayC L P (k + 1)) (rayW L P (k + 1)) = rayW L P (k + 1) := by rw [HC.out]; rfl
      have hfin : ∀ x, ffin .f32 (rayT L P (k + 1)) = x → (rayC L P (k + 1) && rayFin L P (k + 1)) = (x && ffin .f32 (rayW L P (k + 1))) := fun x hx => by unfold rayFin; rw [HC.out, hx]; rfl
      have E1 := Lib.hid e1
      have E2 := Lib.hid e2
      have HF := Lib.hid hfin
      clear e1 e2 hfin
      cases hT : ffin .f32 (rayT L P (k + 1))
      all_goals
        have hend := Lib.hid (HF.out _ hT)
        go_wp2_with (go_at_call 62; refine Calls.mono (c_l01Finite (by assumption) _) ?_; (first | rw [hT] | skip); rintro e w1 ⟨rfl, n9, rfl⟩)
        first | exact bodyPost_ret (v := .tuple #[.float .f32 r, .float .f32 q, .bool false]) (by simp [results, Try.results53, go_sem]) rfl ⟨_, _, by rw [hend.out]; rfl, by rw [E1.out]; exact hr, by rw [E2.out]; exact hq, _, rfl⟩ | exact bodyPost_ret (v := .tuple #[.float .f32 r, .float .f32 q, .bool (ffin .f32 (rayW L P (k + 1)))]) (by simp [results, Try.results53, go_sem]) rfl ⟨_, _, by rw [hend.out]; rfl, by rw [E1.out]; exact hr, by rw [E2.out]; exact hq, _, rfl⟩
end Go.Proofs.Ytkoiimjpalhgbab
