/- Contracts: echoes of rays, on both sides. Condition: the ground is read. -/
import Derived.Test.YtkoiimjpalhgbabRy3
namespace Go.Proofs.Ytkoiimjpalhgbab
open Go.RowKit Ieee

set_option linter.unusedSimpArgs false in
set_option maxRecDepth 20000 in
set_option maxHeartbeats 2000000 in
theorem c_l02Echo {w : World} {b n c s d k p : Nat} {A : Option Addr} {L : List Ly} {S P : Option Nat} (hp : GpAt w b A n c s d) (h : RdL w A n L) (fs : Fl .f32 s S) (fp : Fl .f32 p P) (hk : k + 1 ≤ n) (hn : n ≤ 1048576) :
    Calls Try.prog 58 #[.pointer (some ⟨b, 0, none⟩), .int .i64 (k : Int), .float .f32 p] w fun e w' => ∃ r q, e = .returned (.tuple #[.float .f32 r, .float .f32 q, .bool (echoC L P (k + 1))]) ∧ (echoC L P (k + 1) = true → Fl .f32 r (eT L P (k + 1)) ∧ Fl .f32 q (eW L P (k + 1))) ∧ Dr w w' := by
  have key := c_l02Ray hp h fs fp hk hn
  unfold echoC
  cases hR : (rayC L P (k + 1) && rayFin L P (k + 1))
  · rw [hR] at key
    simp only [Bool.false_and, Bool.false_eq_true, false_imp_iff, true_and]
    generalize giveX (rayC L P (k + 1)) (rayT L P (k + 1)) = T at key
    generalize giveX (rayC L P (k + 1)) (rayW L P (k + 1)) = Y at key
    go_enter Try.func58, Try.ntmps58
    go_wp2_with (first | (go_at_call 53; refine Calls.mono key ?_; rintro e w1 ⟨r2, q2, rfl, hr2, hq2, n1, rfl⟩) | (apply upon_fop rfl; (first | assumption | exact Fl.const (of_decide_eq_true (by kernel_rfl))); (first | assumption | exact Fl.const (of_decide_eq_true (by kernel_rfl))); intro r n hr))
    exact bodyPost_ret (v := .tuple #[.float .f32 _, .float .f32 _, .bool false]) (by simp [results, Try.results58, go_sem]; exact ⟨rfl, rfl⟩) rfl ⟨_, _, rfl, _, rfl⟩
  · have hC : rayC L P (k + 1) = true := by rw [Bool.and_eq_true] at hR; exact hR.1
    rw [hR, hC] at key
    simp only [giveX, if_true, Bool.true_and] at key ⊢
    have e1 : eT L P (k + 1) = fop .mul .f32 k32two (rayT L P (k + 1)) := rfl
    have e2 : eW L P (k + 1) = fop .mul .f32 k32two (rayW L P (k + 1)) := rfl
    generalize eT L P (k + 1) = ET at e1 ⊢
    generalize eW L P (k + 1) = EW at e2 ⊢
    generalize rayT L P (k + 1) = T at key e1
    generalize rayW L P (k + 1) = Y at key e2
    have E1 := Lib.hid e1
    have E2 := Lib.hid e2
    clear e1 e2
    cases hT : ffin .f32 ET
    all_goals
      go_enter Try.func58, Try.ntmps58
      go_wp2_with (first | (go_at_call 53; refine Calls.mono key ?_; rintro e w1 ⟨r2, q2, rfl, hr2, hq2, n1, rfl⟩) | (apply upon_fop rfl; (exact fl_two); (exact hr2); intro r3 n hr3; rw [← E1.out] at hr3) | (apply upon_fop rfl; (exact fl_two); (exact hq2); intro q3 n hq3; rw [← E2.out] at hq3) | (go_at_call 62; refine Calls.mono (c_l01Finite (by assumption) _) ?_; (first | rw [hT] | skip); rintro e w1 ⟨rfl, n9, rfl⟩))
      first | exact bodyPost_ret (v := .tuple #[.float .f32 r3, .float .f32 q3, .bool false]) (by simp [results, Try.results58, go_sem]) rfl ⟨_, _, rfl, fun hh => absurd hh (by simp), _, rfl⟩ | exact bodyPost_ret (v := .tuple #[.float .f32 r3, .float .f32 q3, .bool (ffin .f32 EW)]) (by simp [results, Try.results58, go_sem]) rfl ⟨_, _, rfl, fun _ => ⟨hr3, hq3⟩, _, rfl⟩
set_option linter.unusedSimpArgs false in
set_option maxRecDepth 20000 in
set_option maxHeartbeats 2000000 in
theorem c_echo {w : World} {m c p : Nat} {A : Option Addr} {L : List Ly} {P : Option Nat} (h : RdL w A m L) (fp : Fl .f32 p P) (hm1 : 1 ≤ m) (hm : m ≤ 1048576) :
    Calls Try.prog 59 #[.agg #[.slice A m c], .float .f32 p] w fun e w' => ∃ r q, e = .returned (.tuple #[.float .f32 r, .float .f32 q, .bool (ge0 P && echoC L P m)]) ∧ Fl .f32 r (giveX (ge0 P && echoC L P m) (eT L P m)) ∧ Fl .f32 q (giveX (ge0 P && echoC L P m) (eW L P m)) ∧ Ext w w' := by
  have key := fun W hx => c_down (w := W) (c := c) (h.ext hx) fp hm1 hm
  have hE : (ge0 P && echoC L P m) = ((ge0 P && (rayC L P m && rayFin L P m)) && (ffin .f32 (eT L P m) && ffin .f32 (eW L P m))) := by unfold echoC; simp only [Bool.and_assoc]
  rw [hE]
  clear hE
  cases hR : (ge0 P && (rayC L P m && rayFin L P m))
  · rw [hR] at key
    simp only [Bool.false_and, giveX, Bool.false_eq_true, if_false] at key ⊢
    go_enter Try.func59, Try.ntmps59
    go_wp2_with (first | (go_at_call 56; refine Calls.mono (key _ (by repeat (first | assumption | exact Ext.refl _ | apply Ext.drewN | apply Ext.drew | apply Ext.alloc | (refine Ext.trans ?_ (by assumption)) | (refine Ext.set ?_ (by dsimp only; omega) _)))) ?_; rintro e w1 ⟨r2, q2, rfl, hr2, hq2, hx1⟩) | (go_at_call 82; refine Calls.mono (c_mulNumbers fl_two (by assumption) _) ?_; rintro e w2 ⟨r3, rfl, hr3, n3, rfl⟩))
    exact bodyPost_ret (v := .tuple #[.float .f32 0, .float .f32 0, .bool false]) (by simp [results, Try.results59, go_sem]) rfl ⟨0, 0, rfl, fl_fz, fl_fz, (by repeat (first | assumption | exact Ext.refl _ | apply Ext.drewN | apply Ext.drew | apply Ext.alloc | (refine Ext.trans ?_ (by assumption)) | (refine Ext.set ?_ (by dsimp only; omega) _)))⟩
  · rw [hR] at key
    simp only [Bool.true_and, giveX, if_true] at key ⊢
    have e1 : fop .mul .f32 k32two (rayT L P m) = eT L P m := rfl
    have e2 : fop .mul .f32 k32two (rayW L P m) = eW L P m := rfl
    generalize eT L P m = ET at e1 ⊢
    generalize eW L P m = EW at e2 ⊢
    generalize rayT L P m = T at key e1
    generalize rayW L P m = Y at key e2
    have E1 := Lib.hid e1
    have E2 := Lib.hid e2
    clear e1 e2
    cases hT : ffin .f32 ET <;> cases hW : ffin .f32 EW
    all_goals
      simp only [Bool.and_true, Bool.and_false, Bool.true_and, Bool.false_and, Bool.false_eq_true, if_true, if_false]
      go_enter Try.func59, Try.ntmps59
      go_wp2_with (first | (go_at_call 56; refine Calls.mono (key _ (by repeat (first | assumption | exact Ext.refl _ | apply Ext.drewN | apply Ext.drew | apply Ext.alloc | (refine Ext.trans ?_ (by assumption)) | (refine Ext.set ?_ (by dsimp only; omega) _)))) ?_; rintro e w1 ⟨r2, q2, rfl, hr2, hq2, hx1⟩) | (go_at_call 82; refine Calls.mono (c_mulNumbers fl_two (by assumption) _) ?_; (first | (rw [E1.out]; rintro e w2 ⟨r3, rfl, hr3, n3, rfl⟩) | (rw [E2.out]; rintro e w2 ⟨q3, rfl, hq3, n3, rfl⟩))) | (go_at_call 69; refine Calls.mono (c_impl_IsFinite (by assumption) _) ?_; (first | rw [hT] | rw [hW]); rintro e w1 ⟨rfl, n9, rfl⟩))
      first | exact bodyPost_ret (v := .tuple #[.float .f32 0, .float .f32 0, .bool false]) (by simp [results, Try.results59, go_sem]) rfl ⟨0, 0, rfl, fl_fz, fl_fz, (by repeat (first | assumption | exact Ext.refl _ | apply Ext.drewN | apply Ext.drew | apply Ext.alloc | (refine Ext.trans ?_ (by assumption)) | (refine Ext.set ?_ (by dsimp only; omega) _)))⟩ | exact bodyPost_ret (v := .tuple #[.float .f32 r3, .float .f32 q3, .bool true]) (by simp [results, Try.results59, go_sem]) rfl ⟨_, _, rfl, hr3, hq3, (by repeat (first | assumption | exact Ext.refl _ | apply Ext.drewN | apply Ext.drew | apply Ext.alloc | (refine Ext.trans ?_ (by assumption)) | (refine Ext.set ?_ (by dsimp only; omega) _)))⟩
set_option linter.unusedSimpArgs false in
set_option maxRecDepth 20000 in
set_option maxHeartbeats 2000000 in
theorem c_spec_EchoRay {w : World} {n c s d p : Nat} {A : Option Addr} {L : List Ly} {S D P : Option Nat} (i : Int) (h : RdL w A n L) (hn : n ≤ 1048576) (fs : Fl .f32 s S) (fd : Fl .f32 d D) (fp : Fl .f32 p P) :
    Calls Try.prog 21 #[.agg #[.slice A n c, .float .f32 s, .float .f32 d], .int .i64 i, .float .f32 p] w fun e w' => ∃ r q, e = .returned (.tuple #[.float .f32 r, .float .f32 q, .bool (echoOk L S D P i n)]) ∧ Fl .f32 r (giveX (echoOk L S D P i n) (eT L P (i.toNat + 1))) ∧ Fl .f32 q (giveX (echoOk L S D P i n) (eW L P (i.toNat + 1))) ∧ Ext w w' := by
  have hbox : GpAt (w.alloc (.cells #[.slice A n c, .float .f32 s, .float .f32 d] 31)) w.heap.size A n c s d := GpAt.blk (t := 31) (by repeat (first | (refine al_at ?_ ?_ <;> first | rfl | (simp only [al_size] <;> omega)) | apply al_old))
  have hge := fp.oge0
  unfold echoOk
  cases hB : (fvalid L S D && inBou i n)
  · simp only [giveX, Bool.false_and, Bool.false_eq_true, if_false]
    go_enter Try.func21, Try.ntmps21
    go_wp2_with (go_at_call 51; refine Calls.mono (c_l02Boundary i hbox (h.ext (by repeat (first | assumption | exact Ext.refl _ | apply Ext.drewN | apply Ext.drew | apply Ext.alloc | (refine Ext.trans ?_ (by assumption)) | (refine Ext.set ?_ (by dsimp only; omega) _)))) hn fs fd) ?_; rw [hB]; rintro e w1 ⟨rfl, n1, rfl⟩)
    exact bodyPost_ret (v := .tuple #[.float .f32 0, .float .f32 0, .bool false]) (by simp [results, Try.results21, go_sem]) rfl ⟨0, 0, rfl, fl_fz, fl_fz, (by repeat (first | assumption | exact Ext.refl _ | apply Ext.drewN | apply Ext.drew | apply Ext.alloc | (refine Ext.trans ?_ (by assumption)) | (refine Ext.set ?_ (by dsimp only; omega) _)))⟩
  obtain ⟨k, rfl, hk⟩ := inBou_nat (i := i) (n := n) (by rw [Bool.and_eq_true] at hB; exact hB.2)
  rw [Int.toNat_natCast]
  cases hP : ge0 P
  · rw [hP] at hge
    simp only [giveX, Bool.false_and, Bool.and_false, Bool.false_eq_true, if_false]
    go_enter Try.func21, Try.ntmps21
    go_wp2_with (first | (go_at_call 51; refine Calls.mono (c_l02Boundary _ hbox (h.ext (by repeat (first | assumption | exact Ext.refl _ | apply Ext.drewN | apply Ext.drew | apply Ext.alloc | (refine Ext.trans ?_ (by assumption)) | (refine Ext.set ?_ (by dsimp only; omega) _)))) hn fs fd) ?_; rw [hB]; rintro e w1 ⟨rfl, n1, rfl⟩) | go_in)
    exact bodyPost_ret (v := .tuple #[.float .f32 0, .float .f32 0, .bool false]) (by simp [results, Try.results21, go_sem]) rfl ⟨0, 0, rfl, fl_fz, fl_fz, (by repeat (first | assumption | exact Ext.refl _ | apply Ext.drewN | apply Ext.drew | apply Ext.alloc | (refine Ext.trans ?_ (by assumption)) | (refine Ext.set ?_ (by dsimp only; omega) _)))⟩
  rw [hP] at hge
  have key := fun W hx => c_l02Echo (w := W) (hbox.ext hx) (h.ext (Ext.trans (by repeat (first | assumption | exact Ext.refl _ | apply Ext.drewN | apply Ext.drew | apply Ext.alloc | (refine Ext.trans ?_ (by assumption)) | (refine Ext.set ?_ (by dsimp only; omega) _))) hx)) fs fp hk hn
  cases hR : echoC L P (k + 1)
  · rw [hR] at key
    simp only [giveX, Bool.and_false, Bool.false_eq_true, if_false]
    go_enter Try.func21, Try.ntmps21
    go_wp2_with (first | (go_at_call 51; refine Calls.mono (c_l02Boundary _ hbox (h.ext (by repeat (first | assumption | exact Ext.refl _ | apply Ext.drewN | apply Ext.drew | apply Ext.alloc | (refine Ext.trans ?_ (by assumption)) | (refine Ext.set ?_ (by dsimp only; omega) _)))) hn fs fd) ?_; rw [hB]; rintro e w1 ⟨rfl, n1, rfl⟩) | (go_at_call 52; go_in) | (go_at_call 58; refine Calls.mono (key _ (by repeat (first | assumption | exact Ext.refl _ | apply Ext.drewN | apply Ext.drew | apply Ext.alloc | (refine Ext.trans ?_ (by assumption)) | (refine Ext.set ?_ (by dsimp only; omega) _)))) ?_; rintro e w1 ⟨r2, q2, rfl, hrq, n1, rfl⟩))
    exact bodyPost_ret (v := .tuple #[.float .f32 0, .float .f32 0, .bool false]) (by simp [results, Try.results21, go_sem]) rfl ⟨0, 0, rfl, fl_fz, fl_fz, (by repeat (first | assumption | exact Ext.refl _ | apply Ext.drewN | apply Ext.drew | apply Ext.alloc | (refine Ext.trans ?_ (by assumption)) | (refine Ext.set ?_ (by dsimp only; omega) _)))⟩
  · rw [hR] at key
    simp only [giveX, Bool.true_and, if_true] at key ⊢
    go_enter Try.func21, Try.ntmps21
    go_wp2_with (first | (go_at_call 51; refine Calls.mono (c_l02Boundary _ hbox (h.ext (by repeat (first | assumption | exact Ext.refl _ | apply Ext.drewN | apply Ext.drew | apply Ext.alloc | (refine Ext.trans ?_ (by assumption)) | (refine Ext.set ?_ (by dsimp only; omega) _)))) hn fs fd) ?_; rw [hB]; rintro e w1 ⟨rfl, n1, rfl⟩) | (go_at_call 52; go_in) | (go_at_call 58; refine Calls.mono (key _ (by repeat (first | assumption | exact Ext.refl _ | apply Ext.drewN | apply Ext.drew | apply Ext.alloc | (refine Ext.trans ?_ (by assumption)) | (refine Ext.set ?_ (by dsimp only; omega) _)))) ?_; rintro e w1 ⟨r2, q2, rfl, hrq, n1, rfl⟩; obtain ⟨hr2, hq2⟩ := hrq trivial))
    exact bodyPost_ret (v := .tuple #[.float .f32 r2, .float .f32 q2, .bool true]) (by simp [results, Try.results21, go_sem]) rfl ⟨_, _, rfl, hr2, hq2, (by repeat (first | assumption | exact Ext.refl _ | apply Ext.drewN | apply Ext.drew | apply Ext.alloc | (refine Ext.trans ?_ (by assumption)) | (refine Ext.set ?_ (by dsimp only; omega) _)))⟩
theorem echo_take (L : List Ly) (P : Option Nat) (m : Nat) : eT (L.take m) P m = eT L P m ∧ eW (L.take m) P m = eW L P m ∧ echoC (L.take m) P m = echoC L P m := by
  obtain ⟨t1, t2, t3⟩ := ray_take L P m m (Nat.le_refl _)
  unfold echoC eT eW rayFin
  rw [t1, t2, t3]
  exact ⟨rfl, rfl, rfl⟩
set_option linter.unusedSimpArgs false in
set_option maxRecDepth 20000 in
set_option maxHeartbeats 2000000 in
theorem c_impl_EchoRay {w : World} {n s d p : Nat} {A : Option Addr} {L : List Ly} {S D P : Option Nat} (i : Int) (h : RdL w A n L) (hn : n ≤ 1048576) (fs : Fl .f32 s S) (fd : Fl .f32 d D) (fp : Fl .f32 p P) :
    Calls Try.prog 22 #[.agg #[.slice A n n, .float .f32 s, .float .f32 d], .int .i64 i, .float .f32 p] w fun e w' => ∃ r q, e = .returned (.tuple #[.float .f32 r, .float .f32 q, .bool (echoOk L S D P i n)]) ∧ Fl .f32 r (giveX (echoOk L S D P i n) (eT L P (i.toNat + 1))) ∧ Fl .f32 q (giveX (echoOk L S D P i n) (eW L P (i.toNat + 1))) ∧ Ext w w' := by
  unfold echoOk
  cases hB : (fvalid L S D && inBou i n)
  · simp only [giveX, Bool.false_and, Bool.false_eq_true, if_false]
    go_enter Try.func22, Try.ntmps22
    go_wp2_with (go_at_call 55; refine Calls.mono (c_descentTo_no i (h.ext (by repeat (first | assumption | exact Ext.refl _ | apply Ext.drewN | apply Ext.drew | apply Ext.alloc | (refine Ext.trans ?_ (by assumption)) | (refine Ext.set ?_ (by dsimp only; omega) _)))) fs fd hB) ?_; rintro e w1 ⟨rfl, hx1⟩)
    exact bodyPost_ret (v := .tuple #[.float .f32 0, .float .f32 0, .bool false]) (by simp [results, Try.results22, go_sem]) rfl ⟨0, 0, rfl, fl_fz, fl_fz, (by repeat (first | assumption | exact Ext.refl _ | apply Ext.drewN | apply Ext.drew | apply Ext.alloc | (refine Ext.trans ?_ (by assumption)) | (refine Ext.set ?_ (by dsimp only; omega) _)))⟩
  obtain ⟨k, rfl, hk⟩ := inBou_nat (i := i) (n := n) (by rw [Bool.and_eq_true] at hB; exact hB.2)
  have hV : fvalid L S D = true := by rw [Bool.and_eq_true] at hB; exact hB.1
  rw [Int.toNat_natCast]
  simp only [Bool.true_and]
  obtain ⟨t1, t2, t3⟩ := echo_take L P (k + 1)
  have key := fun W hx => c_echo (w := W) (c := n) ((h.take hk).ext hx) fp (by omega) (by omega)
  rw [t1, t2, t3] at key
  clear t1 t2 t3
  go_enter Try.func22, Try.ntmps22
  go_wp2_with (first | (go_at_call 55; refine Calls.mono (c_descentTo_yes (h.ext (by repeat (first | assumption | exact Ext.refl _ | apply Ext.drewN | apply Ext.drew | apply Ext.alloc | (refine Ext.trans ?_ (by assumption)) | (refine Ext.set ?_ (by dsimp only; omega) _)))) hn fs fd hV hk) ?_; rintro e w1 ⟨rfl, hx1⟩) | (go_at_call 59; refine Calls.mono (key _ (by repeat (first | assumption | exact Ext.refl _ | apply Ext.drewN | apply Ext.drew | apply Ext.alloc | (refine Ext.trans ?_ (by assumption)) | (refine Ext.set ?_ (by dsimp only; omega) _)))) ?_; rintro e w1 ⟨r2, q2, rfl, hr2, hq2, hx2⟩))
  exact bodyPost_ret (v := .tuple #[.float .f32 r2, .float .f32 q2, .bool _]) (by simp [results, Try.results22, go_sem]) rfl ⟨_, _, rfl, hr2, hq2, (by repeat (first | assumption | exact Ext.refl _ | apply Ext.drewN | apply Ext.drew | apply Ext.alloc | (refine Ext.trans ?_ (by assumption)) | (refine Ext.set ?_ (by dsimp only; omega) _)))⟩
end Go.Proofs.Ytkoiimjpalhgbab
