/- Contracts: rays that are shot, on the program's side. Condition: the ground is read. -/
import Derived.Test.YtkoiimjpalhgbabSh
namespace Go.Proofs.Ytkoiimjpalhgbab
open Go.RowKit Ieee

set_option linter.unusedSimpArgs false in
set_option maxRecDepth 20000 in
set_option maxHeartbeats 2000000 in
theorem c_impl_ShootRay {w : World} {n s d p : Nat} {A : Option Addr} {L : List Ly} {S D W : Option Nat} (i : Int) (h : RdL w A n L) (hn : n ≤ 1048576) (fs : Fl .f32 s S) (fd : Fl .f32 d D) (fp : Fl .f32 p W) :
    Calls Try.prog 24 #[.agg #[.slice A n n, .float .f32 s, .float .f32 d], .int .i64 i, .float .f32 p] w fun e w' => ∃ r q, e = .returned (.tuple #[.float .f32 r, .float .f32 q, .bool (shootOk L S D W i n)]) ∧ Fl .f32 r (giveX (shootOk L S D W i n) (shot L (i.toNat + 1) (fsteep L i.toNat) W 30).1) ∧ Fl .f32 q (giveX (shootOk L S D W i n) (eT L (shot L (i.toNat + 1) (fsteep L i.toNat) W 30).1 (i.toNat + 1))) ∧ Ext w w' := by
  have hbox : GpAt (w.alloc (.cells #[.slice A n n, .float .f32 s, .float .f32 d] 31)) w.heap.size A n n s d := GpAt.blk (t := 31) (by repeat (first | (refine al_at ?_ ?_ <;> first | rfl | (simp only [al_size] <;> omega)) | apply al_old))
  have hst := fun Wd hx => c_impl_SteepestOf (w := Wd) i (h.ext hx) hn fs fd
  unfold shootOk
  cases hB : saysOk (fvalid L S D && inBou i n) (fsteep L i.toNat)
  · have hend : (fvalid L S D && inBou i n && (fway W && (ffin .f32 (fsteep L i.toNat) && echoC L (shot L (i.toNat + 1) (fsteep L i.toNat) W 30).1 (i.toNat + 1)))) = false := by
      unfold saysOk at hB
      cases h1 : (fvalid L S D && inBou i n)
      · rfl
      · rw [h1, Bool.true_and] at hB
        rw [hB]; simp
    rw [hend]
    clear hend
    rw [hB] at hst
    simp only [giveX, Bool.false_eq_true, if_false]
    go_enter Try.func24, Try.ntmps24
    go_wp2_with (go_at_call 63; refine Calls.mono (hst _ (by repeat (first | assumption | exact Ext.refl _ | apply Ext.drewN | apply Ext.drew | apply Ext.alloc | (refine Ext.trans ?_ (by assumption)) | (refine Ext.set ?_ (by dsimp only; omega) _)))) ?_; rintro e w1 ⟨r1, rfl, hr1, hx1⟩)
    exact bodyPost_ret (v := .tuple #[.float .f32 0, .float .f32 0, .bool false]) (by simp [results, Try.results24, go_sem]) rfl ⟨0, 0, rfl, fl_fz, fl_fz, (by repeat (first | assumption | exact Ext.refl _ | apply Ext.drewN | apply Ext.drew | apply Ext.alloc | (refine Ext.trans ?_ (by assumption)) | (refine Ext.set ?_ (by dsimp only; omega) _)))⟩
  rw [hB] at hst
  unfold saysOk at hB
  rw [Bool.and_eq_true] at hB
  obtain ⟨hB1, hF⟩ := hB
  rw [hB1, hF]
  have hX : saysX (fvalid L S D && inBou i n) (fsteep L i.toNat) = fsteep L i.toNat := by unfold saysX numX; rw [hB1, hF]; rfl
  rw [hX] at hst
  clear hX
  obtain ⟨k, rfl, hk⟩ := inBou_nat (i := i) (n := n) (by rw [Bool.and_eq_true] at hB1; exact hB1.2)
  have hV : fvalid L S D = true := by rw [Bool.and_eq_true] at hB1; exact hB1.1
  rw [Int.toNat_natCast] at hst hF ⊢
  have hH : Nng (fsteep L k) := by
    exact nng_recip (nng_most h hV k (by have := h.len; omega))
  cases hW : fway W
  · simp only [giveX, Bool.false_and, Bool.true_and, Bool.false_eq_true, if_false]
    go_enter Try.func24, Try.ntmps24
    go_wp2_with (first | (go_at_call 63; refine Calls.mono (hst _ (by repeat (first | assumption | exact Ext.refl _ | apply Ext.drewN | apply Ext.drew | apply Ext.alloc | (refine Ext.trans ?_ (by assumption)) | (refine Ext.set ?_ (by dsimp only; omega) _)))) ?_; rintro e w1 ⟨r1, rfl, hr1, hx1⟩) | (go_at_call 64; refine Calls.mono (c_isDistance fp _) ?_; rw [hW]; rintro e w2 ⟨rfl, n2, rfl⟩))
    exact bodyPost_ret (v := .tuple #[.float .f32 0, .float .f32 0, .bool false]) (by simp [results, Try.results24, go_sem]) rfl ⟨0, 0, rfl, fl_fz, fl_fz, (by repeat (first | assumption | exact Ext.refl _ | apply Ext.drewN | apply Ext.drew | apply Ext.alloc | (refine Ext.trans ?_ (by assumption)) | (refine Ext.set ?_ (by dsimp only; omega) _)))⟩
  simp only [Bool.true_and]
  have hec : ∀ (Wd : World) (P : Option Nat) (r : Nat), ge0 P = true → Fl .f32 r P → Ext w Wd → Calls Try.prog 59 #[.agg #[.slice A (k + 1) n], .float .f32 r] Wd fun e w' => ∃ r q, e = .returned (.tuple #[.float .f32 r, .float .f32 q, .bool (echoC L P (k + 1))]) ∧ Fl .f32 r (giveX (echoC L P (k + 1)) (eT L P (k + 1))) ∧ Ext Wd w' := by
    intro Wd P r hg fr hx
    have h2 := c_echo ((h.take hk).ext hx) fr (by omega) (by omega) (c := n)
    rw [hg] at h2
    simp only [Bool.true_and] at h2
    refine Calls.mono h2 ?_
    rintro e w1 ⟨r1, q1, rfl, e1, _, e3⟩
    rw [echo_take2 (Nat.le_refl _)] at e1
    rw [echo_take2 (Nat.le_refl _)]
    rw [(eTW_take (Nat.le_refl _)).1] at e1
    exact ⟨r1, q1, rfl, e1, e3⟩
  have hg : ge0 (shot L (k + 1) (fsteep L k) W 30).1 = true := nng_ge0 (nng_shot hH 30).1
  have hsl : ∀ (Wd : World) (r : Nat), Fl .f32 r (fsteep L k) → Ext w Wd → Calls Try.prog 65 #[.func (.func 59) #[.agg #[.slice A (k + 1) n]] #[], .float .f32 r, .float .f32 p] Wd fun e w' => ∃ r, e = .returned (.float .f32 r) ∧ Fl .f32 r (shot L (k + 1) (fsteep L k) W 30).1 ∧ Ext Wd w' := by
    intro Wd r fr hx
    have h2 := c_slownessFor ((h.take hk).ext hx) (by omega) (by omega) hH fr fp (c := n)
    rwa [shot_take] at h2
  have HEC := Lib.hid hec
  have HSL := Lib.hid hsl
  clear hec hsl hH
  generalize fsteep L k = H at hst HSL hg hF ⊢
  generalize (shot L (k + 1) H W 30).1 = P at HSL hg ⊢
  cases hE : echoC L P (k + 1)
  all_goals
    go_enter Try.func24, Try.ntmps24
    go_wp2_with (first | (go_at_call 63; refine Calls.mono (hst _ (by repeat (first | assumption | exact Ext.refl _ | apply Ext.drewN | apply Ext.drew | apply Ext.alloc | (refine Ext.trans ?_ (by assumption)) | (refine Ext.set ?_ (by dsimp only; omega) _)))) ?_; rintro e w1 ⟨r1, rfl, hr1, hx1⟩; obtain ⟨p0, p1, p2, _⟩ := hbox.ext (w' := w1) (by repeat (first | assumption | exact Ext.refl _ | apply Ext.drewN | apply Ext.drew | apply Ext.alloc | (refine Ext.trans ?_ (by assumption)) | (refine Ext.set ?_ (by dsimp only; omega) _)))) | (go_at_call 64; refine Calls.mono (c_isDistance fp _) ?_; rw [hW]; rintro e w2 ⟨rfl, n2, rfl⟩) | (go_at_call 55; refine Calls.mono (c_descentTo_yes (h.ext (by repeat (first | assumption | exact Ext.refl _ | apply Ext.drewN | apply Ext.drew | apply Ext.alloc | (refine Ext.trans ?_ (by assumption)) | (refine Ext.set ?_ (by dsimp only; omega) _)))) hn fs fd hV hk) ?_; rintro e w3 ⟨rfl, hx3⟩) | (go_at_call 65; refine Calls.mono (HSL.out _ _ hr1 (by repeat (first | assumption | exact Ext.refl _ | apply Ext.drewN | apply Ext.drew | apply Ext.alloc | (refine Ext.trans ?_ (by assumption)) | (refine Ext.set ?_ (by dsimp only; omega) _)))) ?_; rintro e w4 ⟨r4, rfl, hr4, hx4⟩; obtain ⟨d0, z0⟩ := cell1 (hx4.blk (g := w3.heap.size) (o := .cells #[.slice A (k + 1) n] 67 (0, 0)) (by repeat (first | (refine al_at ?_ ?_ <;> first | rfl | (simp only [al_size] <;> omega)) | apply al_old)))) | (go_at_call 59; refine Calls.mono (HEC.out _ P _ hg hr4 (by repeat (first | assumption | exact Ext.refl _ | apply Ext.drewN | apply Ext.drew | apply Ext.alloc | (refine Ext.trans ?_ (by assumption)) | (refine Ext.set ?_ (by dsimp only; omega) _)))) ?_; rw [hE]; rintro e w5 ⟨r5, q5, rfl, hr5, hx5⟩))
  · exact bodyPost_ret (v := .tuple #[.float .f32 0, .float .f32 0, .bool false]) (by simp [results, Try.results24, go_sem]) rfl ⟨0, 0, rfl, fl_fz, fl_fz, (by repeat (first | assumption | exact Ext.refl _ | apply Ext.drewN | apply Ext.drew | apply Ext.alloc | (refine Ext.trans ?_ (by assumption)) | (refine Ext.set ?_ (by dsimp only; omega) _)))⟩
  · exact bodyPost_ret (v := .tuple #[.float .f32 r4, .float .f32 r5, .bool true]) (by simp [results, Try.results24, go_sem]) rfl ⟨r4, r5, rfl, hr4, hr5, (by repeat (first | assumption | exact Ext.refl _ | apply Ext.drewN | apply Ext.drew | apply Ext.alloc | (refine Ext.trans ?_ (by assumption)) | (refine Ext.set ?_ (by dsimp only; omega) _)))⟩
end Go.Proofs.Ytkoiimjpalhgbab
