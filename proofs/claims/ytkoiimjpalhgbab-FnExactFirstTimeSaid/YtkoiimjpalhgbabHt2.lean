/- Contracts: times of waves along a boundary, as they are returned, on both sides. Condition: the ground is read. -/
import Derived.Test.YtkoiimjpalhgbabHt
namespace Go.Proofs.Ytkoiimjpalhgbab
open Go.RowKit Ieee

theorem two_cells {w : World} {g : Nat} {v0 v1 : Value} {t : TypeId} (hg : w.heap[g]? = some (.cells #[v0, v1] t (0, 0))) :
    w.cell? ⟨g, 0, none⟩ = some v0 ∧ w.cell? ⟨g, 1, none⟩ = some v1 ∧ w.frozen? ⟨g, 0, none⟩ = false ∧ w.frozen? ⟨g, 1, none⟩ = false := by
  refine ⟨?_, ?_, ?_, ?_⟩
  all_goals first | (rw [cell_of_row w g _ _ _ (0, 0) hg]; rfl) | simp [World.frozen?, hg]
def headOk (L : List Ly) (S D W : Option Nat) (i : Int) (n : Nat) : Bool := (fvalid L S D && inBou i n) && (fway W && okH L (headP L S i.toNat) W (i.toNat + 1))
def headT (L : List Ly) (S W : Option Nat) (k : Nat) : Option Nat := hT L (headP L S k) (fop .mul .f32 W (headP L S k)) (k + 1)
theorem pos_layers {w : World} {A : Option Addr} {n : Nat} {L : List Ly} {S D : Option Nat} (h : RdL w A n L) (hV : fvalid L S D = true) (i : Nat) (hi : i < n) : PosF (L.getD i default).t ∧ PosF (L.getD i default).s := by
  obtain ⟨b, off, r0, r1, r2, r3, _, _, hy⟩ := h.cell hi
  have hall : L.all fly = true := by
    unfold fvalid at hV
    simp only [Bool.and_eq_true] at hV
    exact hV.1.1.2
  rw [List.all_eq_true] at hall
  have hf := hall (L.getD i default) (by have := h.len; simp [List.getD, this, hi])
  unfold fly at hf
  simp only [Bool.and_eq_true] at hf
  exact ⟨posF_of hy.f0 hf.1.1.1, posF_of hy.f1 hf.1.1.2⟩
theorem nng_head {w : World} {A : Option Addr} {n s k : Nat} {L : List Ly} {S D : Option Nat} (h : RdL w A n L) (fs : Fl .f32 s S) (hV : fvalid L S D = true) (hk : k + 1 ≤ n) : Nng (headP L S k) := by
  unfold headP
  refine nng_recip ?_
  have hl := h.len
  by_cases hkn : k + 1 = n
  · rw [fspeed_end (by omega)]
    unfold fvalid at hV
    simp only [Bool.and_eq_true] at hV
    exact (posF_of fs hV.1.2).nng
  · rw [fspeed_at (by omega)]
    exact (pos_layers h hV (k + 1) (by omega)).2.nng
theorem okH_take {L : List Ly} {P W : Option Nat} (m : Nat) : okH (L.take m) P W m = okH L P W m ∧ ∀ W0 j, j ≤ m → hT (L.take m) P W0 j = hT L P W0 j := by
  have h2 : ∀ W0 j, j ≤ m → hT (L.take m) P W0 j = hT L P W0 j := by
    intro W0 j
    induction j with
    | zero => intro _; rfl
    | succ j ih =>
      intro hj
      unfold hT
      rw [ih (by omega), getD_take (by omega)]
  obtain ⟨_, h3, h4⟩ := ray_take L P m m (Nat.le_refl _)
  refine ⟨?_, h2⟩
  unfold okH hFar
  rw [h3, h4, h2 _ m (Nat.le_refl _)]

set_option linter.unusedSimpArgs false in
set_option maxRecDepth 20000 in
set_option maxHeartbeats 2000000 in
theorem c_spec_HeadTime {w : World} {n c s d p : Nat} {A : Option Addr} {L : List Ly} {S D W : Option Nat} (i : Int) (h : RdL w A n L) (hn : n ≤ 1048576) (fs : Fl .f32 s S) (fd : Fl .f32 d D) (fp : Fl .f32 p W) :
    Calls Try.prog 27 #[.agg #[.slice A n c, .float .f32 s, .float .f32 d], .int .i64 i, .float .f32 p] w fun e w' => ∃ r, e = .returned (.tuple #[.float .f32 r, .bool (headOk L S D W i n)]) ∧ Fl .f32 r (giveX (headOk L S D W i n) (headT L S W i.toNat)) ∧ Ext w w' := by
  have hbox : GpAt (w.alloc (.cells #[.slice A n c, .float .f32 s, .float .f32 d] 31)) w.heap.size A n c s d := GpAt.blk (t := 31) (by repeat (first | (refine al_at ?_ ?_ <;> first | rfl | (simp only [al_size] <;> omega)) | apply al_old))
  unfold headOk
  cases hB : (fvalid L S D && inBou i n)
  · simp only [giveX, Bool.false_and, Bool.false_eq_true, if_false]
    go_enter Try.func27, Try.ntmps27
    go_wp2_with (go_at_call 51; refine Calls.mono (c_l02Boundary i hbox (h.ext (by repeat (first | assumption | exact Ext.refl _ | apply Ext.drewN | apply Ext.drew | apply Ext.alloc | (refine Ext.trans ?_ (by assumption)) | (refine Ext.set ?_ (by dsimp only; omega) _)))) hn fs fd) ?_; rw [hB]; rintro e w1 ⟨rfl, n1, rfl⟩)
    go_ret2
    exact ⟨0, rfl, fl_fz, (by repeat (first | assumption | exact Ext.refl _ | apply Ext.drewN | apply Ext.drew | apply Ext.alloc | (refine Ext.trans ?_ (by assumption)) | (refine Ext.set ?_ (by dsimp only; omega) _)))⟩
  have hV : fvalid L S D = true := by rw [Bool.and_eq_true] at hB; exact hB.1
  obtain ⟨k, rfl, hk⟩ := inBou_nat (i := i) (n := n) (by rw [Bool.and_eq_true] at hB; exact hB.2)
  rw [Int.toNat_natCast]
  cases hW : fway W
  · simp only [giveX, Bool.false_and, Bool.true_and, Bool.false_eq_true, if_false]
    go_enter Try.func27, Try.ntmps27
    go_wp2_with (first | (go_at_call 51; refine Calls.mono (c_l02Boundary _ hbox (h.ext (by repeat (first | assumption | exact Ext.refl _ | apply Ext.drewN | apply Ext.drew | apply Ext.alloc | (refine Ext.trans ?_ (by assumption)) | (refine Ext.set ?_ (by dsimp only; omega) _)))) hn fs fd) ?_; rw [hB]; rintro e w1 ⟨rfl, n1, rfl⟩) | (go_at_call 60; refine Calls.mono (c_l02Way fp _) ?_; rw [hW]; rintro e w1 ⟨rfl, n1, rfl⟩))
    go_ret2
    exact ⟨0, rfl, fl_fz, (by repeat (first | assumption | exact Ext.refl _ | apply Ext.drewN | apply Ext.drew | apply Ext.alloc | (refine Ext.trans ?_ (by assumption)) | (refine Ext.set ?_ (by dsimp only; omega) _)))⟩
  have hWf : ffin .f32 W = true := by unfold fway at hW; rw [Bool.and_eq_true] at hW; exact hW.1
  have hh := fun Wd hx => c_l02Head (w := Wd) (hbox.ext hx) (h.ext (Ext.trans (by repeat (first | assumption | exact Ext.refl _ | apply Ext.drewN | apply Ext.drew | apply Ext.alloc | (refine Ext.trans ?_ (by assumption)) | (refine Ext.set ?_ (by dsimp only; omega) _))) hx)) fs fp hk hn hWf (nng_head h fs hV hk) (fun i hi => pos_layers h hV i (by omega))
  have HH := Lib.hid hh
  clear hh
  simp only [Bool.true_and]
  unfold headT
  generalize headP L S k = P at HH ⊢
  go_enter Try.func27, Try.ntmps27
  go_wp2_with (first | (go_at_call 51; refine Calls.mono (c_l02Boundary _ hbox (h.ext (by repeat (first | assumption | exact Ext.refl _ | apply Ext.drewN | apply Ext.drew | apply Ext.alloc | (refine Ext.trans ?_ (by assumption)) | (refine Ext.set ?_ (by dsimp only; omega) _)))) hn fs fd) ?_; rw [hB]; rintro e w1 ⟨rfl, n1, rfl⟩) | (go_at_call 60; refine Calls.mono (c_l02Way fp _) ?_; rw [hW]; rintro e w1 ⟨rfl, n1, rfl⟩) | (go_at_call 73; refine Calls.mono (HH.out _ (by repeat (first | assumption | exact Ext.refl _ | apply Ext.drewN | apply Ext.drew | apply Ext.alloc | (refine Ext.trans ?_ (by assumption)) | (refine Ext.set ?_ (by dsimp only; omega) _)))) ?_; rintro e w2 ⟨r2, rfl, hr2, n2, rfl⟩))
  go_ret2
  exact ⟨r2, rfl, hr2, (by repeat (first | assumption | exact Ext.refl _ | apply Ext.drewN | apply Ext.drew | apply Ext.alloc | (refine Ext.trans ?_ (by assumption)) | (refine Ext.set ?_ (by dsimp only; omega) _)))⟩
set_option linter.unusedSimpArgs false in
set_option maxRecDepth 20000 in
set_option maxHeartbeats 2000000 in
theorem c_headWaveOf_no {w : World} {n c s d : Nat} {A : Option Addr} {L : List Ly} {S D : Option Nat} (i : Int) (h : RdL w A n L) (fs : Fl .f32 s S) (fd : Fl .f32 d D) (hno : (fvalid L S D && inBou i n) = false) :
    Calls Try.prog 74 #[.agg #[.slice A n c, .float .f32 s, .float .f32 d], .int .i64 i] w fun e w' => e = .returned (.tuple #[.agg #[.slice none 0 0, .float .f32 0], .bool false]) ∧ Ext w w' := by
  go_enter Try.func74, Try.ntmps74
  go_wp2_with (go_at_call 103; refine Calls.mono (c_layersTo_no i (h.ext (by repeat (first | assumption | exact Ext.refl _ | apply Ext.drewN | apply Ext.drew | apply Ext.alloc | (refine Ext.trans ?_ (by assumption)) | (refine Ext.set ?_ (by dsimp only; omega) _)))) fs fd hno) ?_; rintro e w1 ⟨rfl, hx1⟩; obtain ⟨e0, e1, z0, z1⟩ := two_cells (hx1.blk (g := w.heap.size + 1) (o := .cells #[.slice none 0 0, .float .f32 0] 80 (0, 0)) (by repeat (first | (refine al_at ?_ ?_ <;> first | rfl | (simp only [al_size] <;> omega)) | apply al_old))))
  exact bodyPost_ret (v := .tuple #[.agg #[.slice none 0 0, .float .f32 0], .bool false]) (by simp [results, Try.results74, go_sem, e0, e1, z0, z1]) rfl ⟨rfl, (by repeat (first | assumption | exact Ext.refl _ | apply Ext.drewN | apply Ext.drew | apply Ext.alloc | (refine Ext.trans ?_ (by assumption)) | (refine Ext.set ?_ (by dsimp only; omega) _)))⟩
set_option linter.unusedSimpArgs false in
set_option maxRecDepth 20000 in
set_option maxHeartbeats 2000000 in
theorem c_headWaveOf_yes {w : World} {n s d k : Nat} {A : Option Addr} {L : List Ly} {S D : Option Nat} (h : RdL w A n L) (hn : n ≤ 1048576) (fs : Fl .f32 s S) (fd : Fl .f32 d D) (hV : fvalid L S D = true) (hk : k + 1 ≤ n) :
    Calls Try.prog 74 #[.agg #[.slice A n n, .float .f32 s, .float .f32 d], .int .i64 (k : Int)] w fun e w' => ∃ r, e = .returned (.tuple #[.agg #[.slice A (k + 1) n, .float .f32 r], .bool true]) ∧ Fl .f32 r (fspeed L S (k + 1)) ∧ Ext w w' := by
  have hbox : GpAt (w.alloc (.cells #[.slice A n n, .float .f32 s, .float .f32 d] 31)) w.heap.size A n n s d := GpAt.blk (t := 31) (by repeat (first | (refine al_at ?_ ?_ <;> first | rfl | (simp only [al_size] <;> omega)) | apply al_old))
  have hpart : ∀ Wd, Ext w Wd → Calls Try.prog 110 #[.agg #[.slice A n n, .float .f32 s, .float .f32 d], .int .i64 ((k : Int) + 1)] Wd fun e w' => ∃ r0 r1 r2 r3, e = .returned (.tuple #[.agg #[.float .f32 r0, .float .f32 r1, .float .f32 r2, .float .f32 r3], .bool true]) ∧ Fl .f32 r1 (fspeed L S (k + 1)) ∧ Ext Wd w' := by
    intro Wd hx
    have h2 := c_partOf_yes (k := k + 1) (c := n) (h.ext hx) hn fs fd hV hk
    rw [show ((k + 1 : Nat) : Int) = (k : Int) + 1 by omega] at h2
    exact Calls.mono h2 (by rintro e w' ⟨r0, r1, r2, r3, he, h1, _, hx2⟩; exact ⟨r0, r1, r2, r3, he, h1, hx2⟩)
  go_enter Try.func74, Try.ntmps74
  go_wp2_with (first | (go_at_call 103; refine Calls.mono (c_layersTo_yes (h.ext (by repeat (first | assumption | exact Ext.refl _ | apply Ext.drewN | apply Ext.drew | apply Ext.alloc | (refine Ext.trans ?_ (by assumption)) | (refine Ext.set ?_ (by dsimp only; omega) _)))) hn fs fd hV hk) ?_; rintro e w1 ⟨rfl, hx1⟩; have k1 := Lib.hid (hx1.blk (g := w.heap.size + 1) (o := .cells #[.slice none 0 0, .float .f32 0] 80 (0, 0)) (by repeat (first | (refine al_at ?_ ?_ <;> first | rfl | (simp only [al_size] <;> omega)) | apply al_old))); obtain ⟨p0, p1, p2, _⟩ := hbox.ext (w' := w1) (by repeat (first | assumption | exact Ext.refl _ | apply Ext.drewN | apply Ext.drew | apply Ext.alloc | (refine Ext.trans ?_ (by assumption)) | (refine Ext.set ?_ (by dsimp only; omega) _)))) | (go_at_call 110; refine Calls.mono (hpart _ (by repeat (first | assumption | exact Ext.refl _ | apply Ext.drewN | apply Ext.drew | apply Ext.alloc | (refine Ext.trans ?_ (by assumption)) | (refine Ext.set ?_ (by dsimp only; omega) _)))) ?_; rintro e w2 ⟨r0, r1, r2, r3, rfl, hr1, hx2⟩; obtain ⟨e0, e1, z0, z1⟩ := two_cells (al_old (o := .cells #[.float .f32 r0, .float .f32 r1, .float .f32 r2, .float .f32 r3] 85) (hx2.blk k1.out))))
  exact bodyPost_ret (v := .tuple #[.agg #[.slice A (k + 1) n, .float .f32 r1], .bool true]) (by simp [results, Try.results74, go_sem, e0, e1, z0, z1]) rfl ⟨_, rfl, hr1, (by repeat (first | assumption | exact Ext.refl _ | apply Ext.drewN | apply Ext.drew | apply Ext.alloc | (refine Ext.trans ?_ (by assumption)) | (refine Ext.set ?_ (by dsimp only; omega) _)))⟩
set_option linter.unusedSimpArgs false in
set_option maxRecDepth 20000 in
set_option maxHeartbeats 2000000 in
theorem c_impl_HeadTime {w : World} {n s d p : Nat} {A : Option Addr} {L : List Ly} {S D W : Option Nat} (i : Int) (h : RdL w A n L) (hn : n ≤ 1048576) (fs : Fl .f32 s S) (fd : Fl .f32 d D) (fp : Fl .f32 p W) :
    Calls Try.prog 28 #[.agg #[.slice A n n, .float .f32 s, .float .f32 d], .int .i64 i, .float .f32 p] w fun e w' => ∃ r, e = .returned (.tuple #[.float .f32 r, .bool (headOk L S D W i n)]) ∧ Fl .f32 r (giveX (headOk L S D W i n) (headT L S W i.toNat)) ∧ Ext w w' := by
  unfold headOk
  cases hB : (fvalid L S D && inBou i n)
  · simp only [giveX, Bool.false_and, Bool.false_eq_true, if_false]
    go_enter Try.func28, Try.ntmps28
    go_wp2_with (go_at_call 74; refine Calls.mono (c_headWaveOf_no i (h.ext (by repeat (first | assumption | exact Ext.refl _ | apply Ext.drewN | apply Ext.drew | apply Ext.alloc | (refine Ext.trans ?_ (by assumption)) | (refine Ext.set ?_ (by dsimp only; omega) _)))) fs fd hB) ?_; rintro e w1 ⟨rfl, hx1⟩)
    go_ret2
    exact ⟨0, rfl, fl_fz, (by repeat (first | assumption | exact Ext.refl _ | apply Ext.drewN | apply Ext.drew | apply Ext.alloc | (refine Ext.trans ?_ (by assumption)) | (refine Ext.set ?_ (by dsimp only; omega) _)))⟩
  have hV : fvalid L S D = true := by rw [Bool.and_eq_true] at hB; exact hB.1
  obtain ⟨k, rfl, hk⟩ := inBou_nat (i := i) (n := n) (by rw [Bool.and_eq_true] at hB; exact hB.2)
  rw [Int.toNat_natCast]
  have hP := nng_head h fs hV hk
  have hEq : (true && (fway W && okH L (headP L S k) W (k + 1))) = okH L (headP L S k) W (k + 1) := by
    rw [Bool.true_and]
    cases hW : fway W
    · rw [okH_no fp hP (fun i hi => pos_layers h hV i (by omega)) hW]; rfl
    · rfl
  rw [hEq]
  unfold headT
  have har : ∀ (Wd : World) (r : Nat), Fl .f32 r (fspeed L S (k + 1)) → Ext w Wd → Calls Try.prog 75 #[.agg #[.slice A (k + 1) n, .float .f32 r], .float .f32 p] Wd fun e w' => ∃ r, e = .returned (.tuple #[.float .f32 r, .bool (okH L (headP L S k) W (k + 1))]) ∧ Fl .f32 r (giveX (okH L (headP L S k) W (k + 1)) (hT L (headP L S k) (fop .mul .f32 W (headP L S k)) (k + 1))) ∧ Ext Wd w' := by
    intro Wd r fr hx
    have h2 := c_arrival (c := n) ((h.take hk).ext hx) fr fp (by omega) hP rfl
    obtain ⟨t1, t2⟩ := okH_take (L := L) (P := headP L S k) (W := W) (k + 1)
    rw [t1, t2 _ (k + 1) (Nat.le_refl _)] at h2
    exact h2
  have HAR := Lib.hid har
  clear har hEq hP
  generalize headP L S k = P at HAR ⊢
  go_enter Try.func28, Try.ntmps28
  go_wp2_with (first | (go_at_call 74; refine Calls.mono (c_headWaveOf_yes (h.ext (by repeat (first | assumption | exact Ext.refl _ | apply Ext.drewN | apply Ext.drew | apply Ext.alloc | (refine Ext.trans ?_ (by assumption)) | (refine Ext.set ?_ (by dsimp only; omega) _)))) hn fs fd hV hk) ?_; rintro e w1 ⟨r1, rfl, hr1, hx1⟩) | (go_at_call 75; refine Calls.mono (HAR.out _ _ hr1 (by repeat (first | assumption | exact Ext.refl _ | apply Ext.drewN | apply Ext.drew | apply Ext.alloc | (refine Ext.trans ?_ (by assumption)) | (refine Ext.set ?_ (by dsimp only; omega) _)))) ?_; rintro e w2 ⟨r2, rfl, hr2, hx2⟩))
  go_ret2
  exact ⟨r2, rfl, hr2, (by repeat (first | assumption | exact Ext.refl _ | apply Ext.drewN | apply Ext.drew | apply Ext.alloc | (refine Ext.trans ?_ (by assumption)) | (refine Ext.set ?_ (by dsimp only; omega) _)))⟩
end Go.Proofs.Ytkoiimjpalhgbab
