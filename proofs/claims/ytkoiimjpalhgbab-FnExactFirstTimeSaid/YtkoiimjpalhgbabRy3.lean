/- Contracts: rays to a boundary and back, as they are returned, on both sides. Condition: the ground is read. -/
import Derived.Test.YtkoiimjpalhgbabRy2
namespace Go.Proofs.Ytkoiimjpalhgbab
open Go.RowKit Ieee

def rayOk (L : List Ly) (S D P : Option Nat) (i : Int) (n : Nat) : Bool := (fvalid L S D && inBou i n) && (ge0 P && (rayC L P (i.toNat + 1) && rayFin L P (i.toNat + 1)))
def eT (L : List Ly) (P : Option Nat) (m : Nat) : Option Nat := fop .mul .f32 k32two (rayT L P m)
def eW (L : List Ly) (P : Option Nat) (m : Nat) : Option Nat := fop .mul .f32 k32two (rayW L P m)
def echoC (L : List Ly) (P : Option Nat) (m : Nat) : Bool := (rayC L P m && rayFin L P m) && (ffin .f32 (eT L P m) && ffin .f32 (eW L P m))
def echoOk (L : List Ly) (S D P : Option Nat) (i : Int) (n : Nat) : Bool := (fvalid L S D && inBou i n) && (ge0 P && echoC L P (i.toNat + 1))
theorem fl_two : Fl .f32 1073741824 k32two := Fl.of32 (by decide)
theorem cell1 {w : World} {g : Nat} {v0 : Value} {t : TypeId} (hg : w.heap[g]? = some (.cells #[v0] t (0, 0))) : w.cell? ⟨g, 0, none⟩ = some v0 ∧ w.frozen? ⟨g, 0, none⟩ = false := by
  refine ⟨?_, ?_⟩
  all_goals first | (rw [cell_of_row w g _ _ _ (0, 0) hg]; rfl) | simp [World.frozen?, hg]

set_option linter.unusedSimpArgs false in
set_option maxRecDepth 20000 in
set_option maxHeartbeats 2000000 in
theorem c_spec_RayTo {w : World} {n c s d p : Nat} {A : Option Addr} {L : List Ly} {S D P : Option Nat} (i : Int) (h : RdL w A n L) (hn : n ≤ 1048576) (fs : Fl .f32 s S) (fd : Fl .f32 d D) (fp : Fl .f32 p P) :
    Calls Try.prog 16 #[.agg #[.slice A n c, .float .f32 s, .float .f32 d], .int .i64 i, .float .f32 p] w fun e w' => ∃ r q, e = .returned (.tuple #[.float .f32 r, .float .f32 q, .bool (rayOk L S D P i n)]) ∧ Fl .f32 r (giveX (rayOk L S D P i n) (rayT L P (i.toNat + 1))) ∧ Fl .f32 q (giveX (rayOk L S D P i n) (rayW L P (i.toNat + 1))) ∧ Ext w w' := by
  have hbox : GpAt (w.alloc (.cells #[.slice A n c, .float .f32 s, .float .f32 d] 31)) w.heap.size A n c s d := GpAt.blk (t := 31) (by repeat (first | (refine al_at ?_ ?_ <;> first | rfl | (simp only [al_size] <;> omega)) | apply al_old))
  have hge := fp.oge0
  unfold rayOk
  cases hB : (fvalid L S D && inBou i n)
  · simp only [giveX, Bool.false_and, Bool.false_eq_true, if_false]
    go_enter Try.func16, Try.ntmps16
    go_wp2_with (go_at_call 51; refine Calls.mono (c_l02Boundary i hbox (h.ext (by repeat (first | assumption | exact Ext.refl _ | apply Ext.drewN | apply Ext.drew | apply Ext.alloc | (refine Ext.trans ?_ (by assumption)) | (refine Ext.set ?_ (by dsimp only; omega) _)))) hn fs fd) ?_; rw [hB]; rintro e w1 ⟨rfl, n1, rfl⟩)
    exact bodyPost_ret (v := .tuple #[.float .f32 0, .float .f32 0, .bool false]) (by simp [results, Try.results16, go_sem]) rfl ⟨0, 0, rfl, fl_fz, fl_fz, (by repeat (first | assumption | exact Ext.refl _ | apply Ext.drewN | apply Ext.drew | apply Ext.alloc | (refine Ext.trans ?_ (by assumption)) | (refine Ext.set ?_ (by dsimp only; omega) _)))⟩
  obtain ⟨k, rfl, hk⟩ := inBou_nat (i := i) (n := n) (by rw [Bool.and_eq_true] at hB; exact hB.2)
  rw [Int.toNat_natCast]
  cases hP : ge0 P
  · rw [hP] at hge
    simp only [giveX, Bool.false_and, Bool.and_false, Bool.false_eq_true, if_false]
    go_enter Try.func16, Try.ntmps16
    go_wp2_with (first | (go_at_call 51; refine Calls.mono (c_l02Boundary _ hbox (h.ext (by repeat (first | assumption | exact Ext.refl _ | apply Ext.drewN | apply Ext.drew | apply Ext.alloc | (refine Ext.trans ?_ (by assumption)) | (refine Ext.set ?_ (by dsimp only; omega) _)))) hn fs fd) ?_; rw [hB]; rintro e w1 ⟨rfl, n1, rfl⟩) | go_in)
    exact bodyPost_ret (v := .tuple #[.float .f32 0, .float .f32 0, .bool false]) (by simp [results, Try.results16, go_sem]) rfl ⟨0, 0, rfl, fl_fz, fl_fz, (by repeat (first | assumption | exact Ext.refl _ | apply Ext.drewN | apply Ext.drew | apply Ext.alloc | (refine Ext.trans ?_ (by assumption)) | (refine Ext.set ?_ (by dsimp only; omega) _)))⟩
  rw [hP] at hge
  have key := fun W hx => c_l02Ray (w := W) (hbox.ext hx) (h.ext (Ext.trans (by repeat (first | assumption | exact Ext.refl _ | apply Ext.drewN | apply Ext.drew | apply Ext.alloc | (refine Ext.trans ?_ (by assumption)) | (refine Ext.set ?_ (by dsimp only; omega) _))) hx)) fs fp hk hn
  cases hR : (rayC L P (k + 1) && rayFin L P (k + 1))
  · rw [hR] at key
    simp only [giveX, Bool.and_false, Bool.false_eq_true, if_false]
    go_enter Try.func16, Try.ntmps16
    go_wp2_with (first | (go_at_call 51; refine Calls.mono (c_l02Boundary _ hbox (h.ext (by repeat (first | assumption | exact Ext.refl _ | apply Ext.drewN | apply Ext.drew | apply Ext.alloc | (refine Ext.trans ?_ (by assumption)) | (refine Ext.set ?_ (by dsimp only; omega) _)))) hn fs fd) ?_; rw [hB]; rintro e w1 ⟨rfl, n1, rfl⟩) | (go_at_call 52; go_in) | (go_at_call 53; refine Calls.mono (key _ (by repeat (first | assumption | exact Ext.refl _ | apply Ext.drewN | apply Ext.drew | apply Ext.alloc | (refine Ext.trans ?_ (by assumption)) | (refine Ext.set ?_ (by dsimp only; omega) _)))) ?_; rintro e w1 ⟨r2, q2, rfl, hr2, hq2, n1, rfl⟩))
    exact bodyPost_ret (v := .tuple #[.float .f32 0, .float .f32 0, .bool false]) (by simp [results, Try.results16, go_sem]) rfl ⟨0, 0, rfl, fl_fz, fl_fz, (by repeat (first | assumption | exact Ext.refl _ | apply Ext.drewN | apply Ext.drew | apply Ext.alloc | (refine Ext.trans ?_ (by assumption)) | (refine Ext.set ?_ (by dsimp only; omega) _)))⟩
  · have hC : rayC L P (k + 1) = true := by rw [Bool.and_eq_true] at hR; exact hR.1
    rw [hR, hC] at key
    simp only [giveX, Bool.true_and, if_true] at key ⊢
    go_enter Try.func16, Try.ntmps16
    go_wp2_with (first | (go_at_call 51; refine Calls.mono (c_l02Boundary _ hbox (h.ext (by repeat (first | assumption | exact Ext.refl _ | apply Ext.drewN | apply Ext.drew | apply Ext.alloc | (refine Ext.trans ?_ (by assumption)) | (refine Ext.set ?_ (by dsimp only; omega) _)))) hn fs fd) ?_; rw [hB]; rintro e w1 ⟨rfl, n1, rfl⟩) | (go_at_call 52; go_in) | (go_at_call 53; refine Calls.mono (key _ (by repeat (first | assumption | exact Ext.refl _ | apply Ext.drewN | apply Ext.drew | apply Ext.alloc | (refine Ext.trans ?_ (by assumption)) | (refine Ext.set ?_ (by dsimp only; omega) _)))) ?_; rintro e w1 ⟨r2, q2, rfl, hr2, hq2, n1, rfl⟩))
    exact bodyPost_ret (v := .tuple #[.float .f32 r2, .float .f32 q2, .bool true]) (by simp [results, Try.results16, go_sem]) rfl ⟨_, _, rfl, hr2, hq2, (by repeat (first | assumption | exact Ext.refl _ | apply Ext.drewN | apply Ext.drew | apply Ext.alloc | (refine Ext.trans ?_ (by assumption)) | (refine Ext.set ?_ (by dsimp only; omega) _)))⟩
set_option linter.unusedSimpArgs false in
set_option maxRecDepth 20000 in
set_option maxHeartbeats 1000000 in
theorem c_descentTo_no {w : World} {n c s d : Nat} {A : Option Addr} {L : List Ly} {S D : Option Nat} (i : Int) (h : RdL w A n L) (fs : Fl .f32 s S) (fd : Fl .f32 d D) (hno : (fvalid L S D && inBou i n) = false) :
    Calls Try.prog 55 #[.agg #[.slice A n c, .float .f32 s, .float .f32 d], .int .i64 i] w fun e w' => e = .returned (.tuple #[.agg #[.slice none 0 0], .bool false]) ∧ Ext w w' := by
  go_enter Try.func55, Try.ntmps55
  go_wp2_with (go_at_call 103; refine Calls.mono (c_layersTo_no i (h.ext (by repeat (first | assumption | exact Ext.refl _ | apply Ext.drewN | apply Ext.drew | apply Ext.alloc | (refine Ext.trans ?_ (by assumption)) | (refine Ext.set ?_ (by dsimp only; omega) _)))) fs fd hno) ?_; rintro e w1 ⟨rfl, hx1⟩; obtain ⟨e0, z0⟩ := cell1 (hx1.blk (g := w.heap.size + 1) (o := .cells #[.slice none 0 0] 67 (0, 0)) (by repeat (first | (refine al_at ?_ ?_ <;> first | rfl | (simp only [al_size] <;> omega)) | apply al_old))))
  exact bodyPost_ret (v := .tuple #[.agg #[.slice none 0 0], .bool false]) (by simp [results, Try.results55, go_sem, e0, z0]) rfl ⟨rfl, (by repeat (first | assumption | exact Ext.refl _ | apply Ext.drewN | apply Ext.drew | apply Ext.alloc | (refine Ext.trans ?_ (by assumption)) | (refine Ext.set ?_ (by dsimp only; omega) _)))⟩
set_option linter.unusedSimpArgs false in
set_option maxRecDepth 20000 in
set_option maxHeartbeats 1000000 in
theorem c_descentTo_yes {w : World} {n s d k : Nat} {A : Option Addr} {L : List Ly} {S D : Option Nat} (h : RdL w A n L) (hn : n ≤ 1048576) (fs : Fl .f32 s S) (fd : Fl .f32 d D) (hV : fvalid L S D = true) (hk : k + 1 ≤ n) :
    Calls Try.prog 55 #[.agg #[.slice A n n, .float .f32 s, .float .f32 d], .int .i64 (k : Int)] w fun e w' => e = .returned (.tuple #[.agg #[.slice A (k + 1) n], .bool true]) ∧ Ext w w' := by
  go_enter Try.func55, Try.ntmps55
  go_wp2_with (go_at_call 103; refine Calls.mono (c_layersTo_yes (h.ext (by repeat (first | assumption | exact Ext.refl _ | apply Ext.drewN | apply Ext.drew | apply Ext.alloc | (refine Ext.trans ?_ (by assumption)) | (refine Ext.set ?_ (by dsimp only; omega) _)))) hn fs fd hV hk) ?_; rintro e w1 ⟨rfl, hx1⟩; obtain ⟨e0, z0⟩ := cell1 (hx1.blk (g := w.heap.size + 1) (o := .cells #[.slice none 0 0] 67 (0, 0)) (by repeat (first | (refine al_at ?_ ?_ <;> first | rfl | (simp only [al_size] <;> omega)) | apply al_old))))
  exact bodyPost_ret (v := .tuple #[.agg #[.slice A (k + 1) n], .bool true]) (by simp [results, Try.results55, go_sem, e0, z0]) rfl ⟨rfl, (by repeat (first | assumption | exact Ext.refl _ | apply Ext.drewN | apply Ext.drew | apply Ext.alloc | (refine Ext.trans ?_ (by assumption)) | (refine Ext.set ?_ (by dsimp only; omega) _)))⟩
set_option linter.unusedSimpArgs false in
set_option maxRecDepth 20000 in
set_option maxHeartbeats 2000000 in
theorem c_impl_RayTo {w : World} {n s d p : Nat} {A : Option Addr} {L : List Ly} {S D P : Option Nat} (i : Int) (h : RdL w A n L) (hn : n ≤ 1048576) (fs : Fl .f32 s S) (fd : Fl .f32 d D) (fp : Fl .f32 p P) :
    Calls Try.prog 18 #[.agg #[.slice A n n, .float .f32 s, .float .f32 d], .int .i64 i, .float .f32 p] w fun e w' => ∃ r q, e = .returned (.tuple #[.float .f32 r, .float .f32 q, .bool (rayOk L S D P i n)]) ∧ Fl .f32 r (giveX (rayOk L S D P i n) (rayT L P (i.toNat + 1))) ∧ Fl .f32 q (giveX (rayOk L S D P i n) (rayW L P (i.toNat + 1))) ∧ Ext w w' := by
  unfold rayOk
  cases hB : (fvalid L S D && inBou i n)
  · simp only [giveX, Bool.false_and, Bool.false_eq_true, if_false]
    go_enter Try.func18, Try.ntmps18
    go_wp2_with (go_at_call 55; refine Calls.mono (c_descentTo_no i (h.ext (by repeat (first | assumption | exact Ext.refl _ | apply Ext.drewN | apply Ext.drew | apply Ext.alloc | (refine Ext.trans ?_ (by assumption)) | (refine Ext.set ?_ (by dsimp only; omega) _)))) fs fd hB) ?_; rintro e w1 ⟨rfl, hx1⟩)
    exact bodyPost_ret (v := .tuple #[.float .f32 0, .float .f32 0, .bool false]) (by simp [results, Try.results18, go_sem]) rfl ⟨0, 0, rfl, fl_fz, fl_fz, (by repeat (first | assumption | exact Ext.refl _ | apply Ext.drewN | apply Ext.drew | apply Ext.alloc | (refine Ext.trans ?_ (by assumption)) | (refine Ext.set ?_ (by dsimp only; omega) _)))⟩
  obtain ⟨k, rfl, hk⟩ := inBou_nat (i := i) (n := n) (by rw [Bool.and_eq_true] at hB; exact hB.2)
  have hV : fvalid L S D = true := by rw [Bool.and_eq_true] at hB; exact hB.1
  rw [Int.toNat_natCast]
  simp only [Bool.true_and]
  obtain ⟨t1, t2, t3⟩ := ray_take L P (k + 1) (k + 1) (Nat.le_refl _)
  have key := fun W hx => c_down (w := W) (c := n) ((h.take hk).ext hx) fp (by omega) (by omega)
  unfold rayFin at key ⊢
  rw [t1, t2, t3] at key
  clear t1 t2 t3
  go_enter Try.func18, Try.ntmps18
  go_wp2_with (first | (go_at_call 55; refine Calls.mono (c_descentTo_yes (h.ext (by repeat (first | assumption | exact Ext.refl _ | apply Ext.drewN | apply Ext.drew | apply Ext.alloc | (refine Ext.trans ?_ (by assumption)) | (refine Ext.set ?_ (by dsimp only; omega) _)))) hn fs fd hV hk) ?_; rintro e w1 ⟨rfl, hx1⟩) | (go_at_call 56; refine Calls.mono (key _ (by repeat (first | assumption | exact Ext.refl _ | apply Ext.drewN | apply Ext.drew | apply Ext.alloc | (refine Ext.trans ?_ (by assumption)) | (refine Ext.set ?_ (by dsimp only; omega) _)))) ?_; rintro e w1 ⟨r2, q2, rfl, hr2, hq2, hx2⟩))
  exact bodyPost_ret (v := .tuple #[.float .f32 r2, .float .f32 q2, .bool _]) (by simp [results, Try.results18, go_sem]) rfl ⟨_, _, rfl, hr2, hq2, (by repeat (first | assumption | exact Ext.refl _ | apply Ext.drewN | apply Ext.drew | apply Ext.alloc | (refine Ext.trans ?_ (by assumption)) | (refine Ext.set ?_ (by dsimp only; omega) _)))⟩
end Go.Proofs.Ytkoiimjpalhgbab
