/- Contracts: rays that are shot, on both sides. Condition: the ground is read. -/
import Derived.Test.YtkoiimjpalhgbabEc
import Derived.Test.YtkoiimjpalhgbabSt
import Derived.Test.YtkoiimjpalhgbabNn
namespace Go.Proofs.Ytkoiimjpalhgbab
open Go.RowKit Ieee

/-- The slownesses between which the ray lies, behind so many halvings. -/
def shot (L : List Ly) (m : Nat) (H W : Option Nat) : Nat → Option Nat × Option Nat
  | 0 => (fz, H)
  | j + 1 =>
    if echoC L (fop .mul .f32 k32half (fop .add .f32 (shot L m H W j).1 (shot L m H W j).2)) m && !(fgt32 (eW L (fop .mul .f32 k32half (fop .add .f32 (shot L m H W j).1 (shot L m H W j).2)) m) W)
    then (fop .mul .f32 k32half (fop .add .f32 (shot L m H W j).1 (shot L m H W j).2), (shot L m H W j).2)
    else ((shot L m H W j).1, fop .mul .f32 k32half (fop .add .f32 (shot L m H W j).1 (shot L m H W j).2))
theorem nng_shot {L : List Ly} {m : Nat} {H W : Option Nat} (hH : Nng H) : ∀ j, Nng (shot L m H W j).1 ∧ Nng (shot L m H W j).2
  | 0 => ⟨nng_zero, hH⟩
  | j + 1 => by
    obtain ⟨h1, h2⟩ := nng_shot (L := L) (m := m) (W := W) hH j
    have h3 := nng_half (nng_add h1 h2)
    unfold shot
    split
    · exact ⟨h3, h2⟩
    · exact ⟨h1, h3⟩
theorem nng_pos {X : Option Nat} {r : Nat} (h : Fl .f32 r X) (hp : fabove X = true) : Nng X := by
  obtain ⟨m, e, h1⟩ := pos_of h hp
  have hx := h.eq
  rw [h1.fl] at hx
  exact ⟨r, hx.symm, by rw [h1.read]; rfl⟩
theorem fl_half32 : Fl .f32 1056964608 k32half := Fl.of32 (by decide)
theorem echo_take2 {L : List Ly} {P : Option Nat} {m j : Nat} (hj : j ≤ m) : echoC (L.take m) P j = echoC L P j := by
  obtain ⟨h1, h2, h3⟩ := ray_take L P m j hj
  unfold echoC eT eW rayFin
  rw [h1, h2, h3]
theorem eTW_take {L : List Ly} {P : Option Nat} {m j : Nat} (hj : j ≤ m) : eT (L.take m) P j = eT L P j ∧ eW (L.take m) P j = eW L P j := by
  obtain ⟨h1, h2, h3⟩ := ray_take L P m j hj
  unfold eT eW
  rw [h1, h2]
  exact ⟨rfl, rfl⟩
theorem shot_take {L : List Ly} {m : Nat} {H W : Option Nat} : ∀ j, shot (L.take m) m H W j = shot L m H W j
  | 0 => rfl
  | j + 1 => by
    unfold shot
    rw [shot_take j]
    simp only [echo_take2 (Nat.le_refl _), (eTW_take (Nat.le_refl _)).2]
theorem nng_most {w : World} {A : Option Addr} {n : Nat} {L : List Ly} {S D : Option Nat} (h : RdL w A n L) (hV : fvalid L S D = true) : ∀ k, k < L.length → Nng (fmost L k)
  | 0, hk => by
    obtain ⟨b1, off, r0, r1, r2, r3, _, _, hy⟩ := h.cell (k := 0) (by have := h.len; omega)
    exact nng_pos hy.f1 (fly_speed hV hk)
  | k + 1, hk => by
    unfold fmost
    split
    · obtain ⟨b1, off, r0, r1, r2, r3, _, _, hy⟩ := h.cell (k := k + 1) (by have := h.len; omega)
      exact nng_pos hy.f1 (fly_speed hV hk)
    · exact nng_most h hV k (by omega)
def shootOk (L : List Ly) (S D W : Option Nat) (i : Int) (n : Nat) : Bool := (fvalid L S D && inBou i n) && (fway W && (ffin .f32 (fsteep L i.toNat) && echoC L (shot L (i.toNat + 1) (fsteep L i.toNat) W 30).1 (i.toNat + 1)))

set_option linter.unusedSimpArgs false in
set_option maxRecDepth 20000 in
set_option maxHeartbeats 4000000 in
theorem c_spec_ShootRay {w : World} {n c s d p : Nat} {A : Option Addr} {L : List Ly} {S D W : Option Nat} (i : Int) (h : RdL w A n L) (hn : n ≤ 1048576) (fs : Fl .f32 s S) (fd : Fl .f32 d D) (fp : Fl .f32 p W) :
    Calls Try.prog 23 #[.agg #[.slice A n c, .float .f32 s, .float .f32 d], .int .i64 i, .float .f32 p] w fun e w' => ∃ r q, e = .returned (.tuple #[.float .f32 r, .float .f32 q, .bool (shootOk L S D W i n)]) ∧ Fl .f32 r (giveX (shootOk L S D W i n) (shot L (i.toNat + 1) (fsteep L i.toNat) W 30).1) ∧ Fl .f32 q (giveX (shootOk L S D W i n) (eT L (shot L (i.toNat + 1) (fsteep L i.toNat) W 30).1 (i.toNat + 1))) ∧ Ext w w' := by
  have hbox : GpAt (w.alloc (.cells #[.slice A n c, .float .f32 s, .float .f32 d] 31)) w.heap.size A n c s d := GpAt.blk (t := 31) (by repeat (first | (refine al_at ?_ ?_ <;> first | rfl | (simp only [al_size] <;> omega)) | apply al_old))
  unfold shootOk
  cases hB : (fvalid L S D && inBou i n)
  · simp only [giveX, Bool.false_and, Bool.false_eq_true, if_false]
    go_enter Try.func23, Try.ntmps23
    go_wp2_with (go_at_call 51; refine Calls.mono (c_l02Boundary i hbox (h.ext (by repeat (first | assumption | exact Ext.refl _ | apply Ext.drewN | apply Ext.drew | apply Ext.alloc | (refine Ext.trans ?_ (by assumption)) | (refine Ext.set ?_ (by dsimp only; omega) _)))) hn fs fd) ?_; rw [hB]; rintro e w1 ⟨rfl, n1, rfl⟩)
    exact bodyPost_ret (v := .tuple #[.float .f32 0, .float .f32 0, .bool false]) (by simp [results, Try.results23, go_sem]) rfl ⟨0, 0, rfl, fl_fz, fl_fz, (by repeat (first | assumption | exact Ext.refl _ | apply Ext.drewN | apply Ext.drew | apply Ext.alloc | (refine Ext.trans ?_ (by assumption)) | (refine Ext.set ?_ (by dsimp only; omega) _)))⟩
  obtain ⟨k, rfl, hk⟩ := inBou_nat (i := i) (n := n) (by rw [Bool.and_eq_true] at hB; exact hB.2)
  rw [Int.toNat_natCast]
  cases hW : fway W
  · simp only [giveX, Bool.false_and, Bool.true_and, Bool.false_eq_true, if_false]
    go_enter Try.func23, Try.ntmps23
    go_wp2_with (first | (go_at_call 51; refine Calls.mono (c_l02Boundary _ hbox (h.ext (by repeat (first | assumption | exact Ext.refl _ | apply Ext.drewN | apply Ext.drew | apply Ext.alloc | (refine Ext.trans ?_ (by assumption)) | (refine Ext.set ?_ (by dsimp only; omega) _)))) hn fs fd) ?_; rw [hB]; rintro e w1 ⟨rfl, n1, rfl⟩) | (go_at_call 60; refine Calls.mono (c_l02Way fp _) ?_; rw [hW]; rintro e w1 ⟨rfl, n1, rfl⟩))
    exact bodyPost_ret (v := .tuple #[.float .f32 0, .float .f32 0, .bool false]) (by simp [results, Try.results23, go_sem]) rfl ⟨0, 0, rfl, fl_fz, fl_fz, (by repeat (first | assumption | exact Ext.refl _ | apply Ext.drewN | apply Ext.drew | apply Ext.alloc | (refine Ext.trans ?_ (by assumption)) | (refine Ext.set ?_ (by dsimp only; omega) _)))⟩
  have hst := fun Wd hx => c_l02Steepest (w := Wd) (hbox.ext hx) (h.ext (Ext.trans (by repeat (first | assumption | exact Ext.refl _ | apply Ext.drewN | apply Ext.drew | apply Ext.alloc | (refine Ext.trans ?_ (by assumption)) | (refine Ext.set ?_ (by dsimp only; omega) _))) hx)) hk hn
  cases hF : ffin .f32 (fsteep L k)
  · simp only [giveX, Bool.false_and, Bool.true_and, Bool.false_eq_true, if_false]
    go_enter Try.func23, Try.ntmps23
    go_wp2_with (first | (go_at_call 51; refine Calls.mono (c_l02Boundary _ hbox (h.ext (by repeat (first | assumption | exact Ext.refl _ | apply Ext.drewN | apply Ext.drew | apply Ext.alloc | (refine Ext.trans ?_ (by assumption)) | (refine Ext.set ?_ (by dsimp only; omega) _)))) hn fs fd) ?_; rw [hB]; rintro e w1 ⟨rfl, n1, rfl⟩) | (go_at_call 60; refine Calls.mono (c_l02Way fp _) ?_; rw [hW]; rintro e w1 ⟨rfl, n1, rfl⟩) | (go_at_call 61; refine Calls.mono (hst _ (by repeat (first | assumption | exact Ext.refl _ | apply Ext.drewN | apply Ext.drew | apply Ext.alloc | (refine Ext.trans ?_ (by assumption)) | (refine Ext.set ?_ (by dsimp only; omega) _)))) ?_; rintro e w1 ⟨r1, rfl, hr1, n1, rfl⟩) | (go_at_call 62; refine Calls.mono (c_l01Finite hr1 _) ?_; rw [hF]; rintro e w1 ⟨rfl, n1, rfl⟩))
    exact bodyPost_ret (v := .tuple #[.float .f32 0, .float .f32 0, .bool false]) (by simp [results, Try.results23, go_sem]) rfl ⟨0, 0, rfl, fl_fz, fl_fz, (by repeat (first | assumption | exact Ext.refl _ | apply Ext.drewN | apply Ext.drew | apply Ext.alloc | (refine Ext.trans ?_ (by assumption)) | (refine Ext.set ?_ (by dsimp only; omega) _)))⟩
  simp only [Bool.true_and]
  generalize fsteep L k = H at hst hF ⊢
  have hec : ∀ (Wd : World) (P : Option Nat) (r : Nat), Fl .f32 r P → Ext (w.alloc (.cells #[.slice A n c, .float .f32 s, .float .f32 d] 31)) Wd → Calls Try.prog 58 #[.pointer (some ⟨w.heap.size, 0, none⟩), .int .i64 (k : Int), .float .f32 r] Wd fun e w' => ∃ r q, e = .returned (.tuple #[.float .f32 r, .float .f32 q, .bool (echoC L P (k + 1))]) ∧ (echoC L P (k + 1) = true → Fl .f32 r (eT L P (k + 1)) ∧ Fl .f32 q (eW L P (k + 1))) ∧ Dr Wd w' :=
    fun Wd P r fr hx => c_l02Echo (hbox.ext hx) (h.ext (Ext.trans (by repeat (first | assumption | exact Ext.refl _ | apply Ext.drewN | apply Ext.drew | apply Ext.alloc | (refine Ext.trans ?_ (by assumption)) | (refine Ext.set ?_ (by dsimp only; omega) _))) hx)) fs fr hk hn
  have HEC := Lib.hid hec
  clear hec
  go_enter Try.func23, Try.ntmps23
  go_wp2_with (first | (go_at_call 51; refine Calls.mono (c_l02Boundary _ hbox (h.ext (by repeat (first | assumption | exact Ext.refl _ | apply Ext.drewN | apply Ext.drew | apply Ext.alloc | (refine Ext.trans ?_ (by assumption)) | (refine Ext.set ?_ (by dsimp only; omega) _)))) hn fs fd) ?_; rw [hB]; rintro e w1 ⟨rfl, n1, rfl⟩) | (go_at_call 60; refine Calls.mono (c_l02Way fp _) ?_; rw [hW]; rintro e w1 ⟨rfl, n1, rfl⟩) | (go_at_call 61; refine Calls.mono (hst _ (by repeat (first | assumption | exact Ext.refl _ | apply Ext.drewN | apply Ext.drew | apply Ext.alloc | (refine Ext.trans ?_ (by assumption)) | (refine Ext.set ?_ (by dsimp only; omega) _)))) ?_; rintro e w1 ⟨r1, rfl, hr1, n1, rfl⟩) | (go_at_call 62; refine Calls.mono (c_l01Finite hr1 _) ?_; rw [hF]; rintro e w1 ⟨rfl, n1, rfl⟩))
  go_loopw [9, 10, 11] (fun lo hi i wr => ∃ j r q : Nat, j ≤ 30 ∧ i = .int .i64 (j : Int) ∧ lo = .float .f32 r ∧ Fl .f32 r (shot L (k + 1) H W j).1 ∧ hi = .float .f32 q ∧ Fl .f32 q (shot L (k + 1) H W j).2 ∧ Ext (w.alloc (.cells #[.slice A n c, .float .f32 s, .float .f32 d] 31)) wr) (fun _ _ i _ => 30 - (intOf i).toNat)
  case atStart => exact ⟨0, 0, _, Nat.zero_le _, rfl, rfl, fl_fz, rfl, hr1, (by repeat (first | assumption | exact Ext.refl _ | apply Ext.drewN | apply Ext.drew | apply Ext.alloc | (refine Ext.trans ?_ (by assumption)) | (refine Ext.set ?_ (by dsimp only; omega) _)))⟩
  case round =>
    obtain ⟨j, r, q, hj, rfl, rfl, hr, rfl, hq, hx⟩ := hrel
    by_cases hlt : j < 30
    · obtain ⟨P, hP⟩ : ∃ P, P = fop .mul .f32 k32half (fop .add .f32 (shot L (k + 1) H W j).1 (shot L (k + 1) H W j).2) := ⟨_, rfl⟩
      have hT : shot L (k + 1) H W (j + 1) = if echoC L P (k + 1) && !(fgt32 (eW L P (k + 1)) W) then (P, (shot L (k + 1) H W j).2) else ((shot L (k + 1) H W j).1, P) := by subst hP; rfl
      generalize hZ : shot L (k + 1) H W j = Z at hr hq hP hT
      have HP := Lib.hid hP
      have n1 : (j : Int) < 30 := by omega
      cases hE : echoC L P (k + 1)
      · rw [hE, Bool.false_and] at hT
        have hT' : shot L (k + 1) H W (j + 1) = (Z.1, P) := hT
        have HT := Lib.hid hT'
        clear hT hT' hP
        go_wp2_with (first | (apply upon_fop rfl; (exact hr); (exact hq); intro r3 n3 hr3) | (apply upon_fop rfl; (exact fl_half32); (exact hr3); intro r4 n4 hr4; rw [← HP.out] at hr4) | (go_at_call 58; refine Calls.mono (HEC.out _ P _ hr4 (by repeat (first | assumption | exact Ext.refl _ | apply Ext.drewN | apply Ext.drew | apply Ext.alloc | (refine Ext.trans ?_ (by assumption)) | (refine Ext.set ?_ (by dsimp only; omega) _)))) ?_; rw [hE]; rintro e w1 ⟨r5, q5, rfl, _, n5, rfl⟩))
        exact ⟨⟨j + 1, r, r4, by omega, by go_num, rfl, by rw [HT.out]; exact hr, rfl, by rw [HT.out]; exact hr4, (by repeat (first | assumption | exact Ext.refl _ | apply Ext.drewN | apply Ext.drew | apply Ext.alloc | (refine Ext.trans ?_ (by assumption)) | (refine Ext.set ?_ (by dsimp only; omega) _)))⟩, by simp [intOf]; omega⟩
      · cases hG : fgt32 (eW L P (k + 1)) W
        all_goals
          rw [hE, hG] at hT
          simp only [Bool.true_and, Bool.not_false, Bool.not_true, Bool.false_eq_true, if_true, if_false] at hT
          have HT := Lib.hid hT
          clear hT hP
          go_wp2_with (first | (apply upon_fop rfl; (exact hr); (exact hq); intro r3 n3 hr3) | (apply upon_fop rfl; (exact fl_half32); (exact hr3); intro r4 n4 hr4; rw [← HP.out] at hr4) | (go_at_call 58; refine Calls.mono (HEC.out _ P _ hr4 (by repeat (first | assumption | exact Ext.refl _ | apply Ext.drewN | apply Ext.drew | apply Ext.alloc | (refine Ext.trans ?_ (by assumption)) | (refine Ext.set ?_ (by dsimp only; omega) _)))) ?_; rw [hE]; rintro e w1 ⟨r5, q5, rfl, hrq, n5, rfl⟩; obtain ⟨_, hq5⟩ := hrq rfl; have hgt := hq5.ogt fp; rw [hG] at hgt))
        · exact ⟨⟨j + 1, r4, q, by omega, by go_num, rfl, by rw [HT.out]; exact hr4, rfl, by rw [HT.out]; exact hq, (by repeat (first | assumption | exact Ext.refl _ | apply Ext.drewN | apply Ext.drew | apply Ext.alloc | (refine Ext.trans ?_ (by assumption)) | (refine Ext.set ?_ (by dsimp only; omega) _)))⟩, by simp [intOf]; omega⟩
        · exact ⟨⟨j + 1, r, r4, by omega, by go_num, rfl, by rw [HT.out]; exact hr, rfl, by rw [HT.out]; exact hr4, (by repeat (first | assumption | exact Ext.refl _ | apply Ext.drewN | apply Ext.drew | apply Ext.alloc | (refine Ext.trans ?_ (by assumption)) | (refine Ext.set ?_ (by dsimp only; omega) _)))⟩, by simp [intOf]; omega⟩
    · have hjk : j = 30 := by omega
      subst hjk
      obtain ⟨P, hP⟩ : ∃ P, P = (shot L (k + 1) H W 30).1 := ⟨_, rfl⟩
      rw [← hP] at hr
      have HP := Lib.hid hP
      clear hP
      cases hE : echoC L P (k + 1)
      · go_wp2_with (go_at_call 58; refine Calls.mono (HEC.out _ P _ hr (by repeat (first | assumption | exact Ext.refl _ | apply Ext.drewN | apply Ext.drew | apply Ext.alloc | (refine Ext.trans ?_ (by assumption)) | (refine Ext.set ?_ (by dsimp only; omega) _)))) ?_; rw [hE]; rintro e w1 ⟨r5, q5, rfl, _, n5, rfl⟩)
        exact bodyPost_ret (v := .tuple #[.float .f32 0, .float .f32 0, .bool false]) (by simp [results, Try.results23, go_sem]) rfl ⟨0, 0, by rw [← HP.out, hE], by rw [← HP.out, hE]; exact fl_fz, by rw [← HP.out, hE]; exact fl_fz, (by repeat (first | assumption | exact Ext.refl _ | apply Ext.drewN | apply Ext.drew | apply Ext.alloc | (refine Ext.trans ?_ (by assumption)) | (refine Ext.set ?_ (by dsimp only; omega) _)))⟩
      · go_wp2_with (go_at_call 58; refine Calls.mono (HEC.out _ P _ hr (by repeat (first | assumption | exact Ext.refl _ | apply Ext.drewN | apply Ext.drew | apply Ext.alloc | (refine Ext.trans ?_ (by assumption)) | (refine Ext.set ?_ (by dsimp only; omega) _)))) ?_; rw [hE]; rintro e w1 ⟨r5, q5, rfl, hrq, n5, rfl⟩; obtain ⟨hr5, _⟩ := hrq rfl)
        exact bodyPost_ret (v := .tuple #[.float .f32 r, .float .f32 r5, .bool true]) (by simp [results, Try.results23, go_sem]) rfl ⟨r, r5, by rw [← HP.out, hE], by rw [← HP.out, hE]; exact hr, by rw [← HP.out, hE]; exact hr5, (by repeat (first | assumption | exact Ext.refl _ | apply Ext.drewN | apply Ext.drew | apply Ext.alloc | (refine Ext.trans ?_ (by assumption)) | (refine Ext.set ?_ (by dsimp only; omega) _)))⟩
set_option linter.unusedSimpArgs false in
set_option maxRecDepth 20000 in
set_option maxHeartbeats 4000000 in
theorem c_slownessFor {w : World} {m c q0 p : Nat} {A : Option Addr} {L : List Ly} {H W : Option Nat} (h : RdL w A m L) (hm1 : 1 ≤ m) (hm : m ≤ 1048576) (hH : Nng H) (fq : Fl .f32 q0 H) (fp : Fl .f32 p W) :
    Calls Try.prog 65 #[.func (.func 59) #[.agg #[.slice A m c]] #[], .float .f32 q0, .float .f32 p] w fun e w' => ∃ r, e = .returned (.float .f32 r) ∧ Fl .f32 r (shot L m H W 30).1 ∧ Ext w w' := by
  have hec : ∀ (Wd : World) (P : Option Nat) (r : Nat), ge0 P = true → Fl .f32 r P → Ext w Wd → Calls Try.prog 59 #[.agg #[.slice A m c], .float .f32 r] Wd fun e w' => ∃ r q, e = .returned (.tuple #[.float .f32 r, .float .f32 q, .bool (echoC L P m)]) ∧ Fl .f32 r (giveX (echoC L P m) (eT L P m)) ∧ Fl .f32 q (giveX (echoC L P m) (eW L P m)) ∧ Ext Wd w' := by
    intro Wd P r hg fr hx
    have := c_echo (h.ext hx) fr hm1 hm (c := c)
    rw [hg] at this
    simpa only [Bool.true_and] using this
  have hN := nng_shot (L := L) (m := m) (W := W) hH
  have HEC := Lib.hid hec
  have HN := Lib.hid hN
  clear hec hN
  go_enter Try.func65, Try.ntmps65
  go_wp2_with (fail)
  go_loopw [1, 7, 12] (fun hi lo i wr => ∃ j r q : Nat, j ≤ 30 ∧ i = .int .i64 (j : Int) ∧ lo = .float .f32 r ∧ Fl .f32 r (shot L m H W j).1 ∧ hi = .float .f32 q ∧ Fl .f32 q (shot L m H W j).2 ∧ Ext w wr) (fun _ _ i _ => 30 - (intOf i).toNat)
  case atStart => exact ⟨0, 0, _, Nat.zero_le _, rfl, rfl, fl_fz, rfl, fq, (by repeat (first | assumption | exact Ext.refl _ | apply Ext.drewN | apply Ext.drew | apply Ext.alloc | (refine Ext.trans ?_ (by assumption)) | (refine Ext.set ?_ (by dsimp only; omega) _)))⟩
  case round =>
    obtain ⟨j, r, q, hj, rfl, rfl, hr, rfl, hq, hx⟩ := hrel
    by_cases hlt : j < 30
    · obtain ⟨P, hP⟩ : ∃ P, P = fop .mul .f32 k32half (fop .add .f32 (shot L m H W j).1 (shot L m H W j).2) := ⟨_, rfl⟩
      have hg : ge0 P = true := by subst hP; exact nng_ge0 (nng_half (nng_add (HN.out j).1 (HN.out j).2))
      have hT : shot L m H W (j + 1) = if echoC L P m && !(fgt32 (eW L P m) W) then (P, (shot L m H W j).2) else ((shot L m H W j).1, P) := by subst hP; rfl
      rw [← fop_half] at hP
      generalize hZ : shot L m H W j = Z at hr hq hP hT
      have HP := Lib.hid hP
      have n1 : (j : Int) < 30 := by omega
      cases hE : echoC L P m
      · rw [hE, Bool.false_and] at hT
        have hT' : shot L m H W (j + 1) = (Z.1, P) := hT
        have HT := Lib.hid hT'
        clear hT hT' hP
        go_wp2_with (first | (apply upon_fop rfl; (exact hr); (exact hq); intro r3 n3 hr3) | (apply upon_fop rfl; (exact hr3); (exact fl_two); intro r4 n4 hr4; rw [← HP.out] at hr4) | (go_at_call 59; refine Calls.mono (HEC.out _ P _ hg hr4 (by repeat (first | assumption | exact Ext.refl _ | apply Ext.drewN | apply Ext.drew | apply Ext.alloc | (refine Ext.trans ?_ (by assumption)) | (refine Ext.set ?_ (by dsimp only; omega) _)))) ?_; rw [hE]; rintro e w1 ⟨r5, q5, rfl, _, _, hx5⟩))
        exact ⟨⟨j + 1, r, r4, by omega, by go_num, rfl, by rw [HT.out]; exact hr, rfl, by rw [HT.out]; exact hr4, (by repeat (first | assumption | exact Ext.refl _ | apply Ext.drewN | apply Ext.drew | apply Ext.alloc | (refine Ext.trans ?_ (by assumption)) | (refine Ext.set ?_ (by dsimp only; omega) _)))⟩, by simp [intOf]; omega⟩
      · cases hG : fgt32 (eW L P m) W
        all_goals
          rw [hE, hG] at hT
          simp only [Bool.true_and, Bool.not_false, Bool.not_true, Bool.false_eq_true, if_true, if_false] at hT
          have HT := Lib.hid hT
          clear hT hP
          go_wp2_with (first | (apply upon_fop rfl; (exact hr); (exact hq); intro r3 n3 hr3) | (apply upon_fop rfl; (exact hr3); (exact fl_two); intro r4 n4 hr4; rw [← HP.out] at hr4) | (go_at_call 59; refine Calls.mono (HEC.out _ P _ hg hr4 (by repeat (first | assumption | exact Ext.refl _ | apply Ext.drewN | apply Ext.drew | apply Ext.alloc | (refine Ext.trans ?_ (by assumption)) | (refine Ext.set ?_ (by dsimp only; omega) _)))) ?_; rw [hE]; rintro e w1 ⟨r5, q5, rfl, _, hq5, hx5⟩; have hgt := Fl.ogt (X := eW L P m) hq5 fp; rw [hG] at hgt))
        · exact ⟨⟨j + 1, r4, q, by omega, by go_num, rfl, by rw [HT.out]; exact hr4, rfl, by rw [HT.out]; exact hq, (by repeat (first | assumption | exact Ext.refl _ | apply Ext.drewN | apply Ext.drew | apply Ext.alloc | (refine Ext.trans ?_ (by assumption)) | (refine Ext.set ?_ (by dsimp only; omega) _)))⟩, by simp [intOf]; omega⟩
        · exact ⟨⟨j + 1, r, r4, by omega, by go_num, rfl, by rw [HT.out]; exact hr, rfl, by rw [HT.out]; exact hr4, (by repeat (first | assumption | exact Ext.refl _ | apply Ext.drewN | apply Ext.drew | apply Ext.alloc | (refine Ext.trans ?_ (by assumption)) | (refine Ext.set ?_ (by dsimp only; omega) _)))⟩, by simp [intOf]; omega⟩
    · have hjk : j = 30 := by omega
      subst hjk
      go_wp2_with (fail)
      go_ret
      exact ⟨_, rfl, hr, hx⟩
end Go.Proofs.Ytkoiimjpalhgbab
