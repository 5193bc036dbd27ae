/- Contracts: what comes first, on both sides. Condition: the ground is read. -/
import Derived.Test.YtkoiimjpalhgbabHt2
import Derived.OwnWalk
namespace Go.Proofs.Ytkoiimjpalhgbab
open Go.RowKit Ieee

def dT (L : List Ly) (S W : Option Nat) : Option Nat := fop .quo .f32 W (fspeed L S 0)
def hOk (L : List Ly) (S W : Option Nat) (j : Nat) : Bool := okH L (headP L S j) W (j + 1)
/-- The boundary of what comes first, and its time. -/
def ft (L : List Ly) (S W : Option Nat) : Nat → Int × Option Nat
  | 0 => (-1, dT L S W)
  | j + 1 => if hOk L S W j && flt32 (headT L S W j) (ft L S W j).2 then ((j : Int), headT L S W j) else ft L S W j
def ftOk (L : List Ly) (S D W : Option Nat) : Bool := fvalid L S D && (fway W && ffin .f32 (ft L S W L.length).2)
def ftB (L : List Ly) (S D W : Option Nat) : Int := if ftOk L S D W then (ft L S W L.length).1 else 0
theorem ft_ok {L : List Ly} {S D W : Option Nat} {n : Nat} (hl : L.length = n) (hV : fvalid L S D = true) (hW : fway W = true) : ftOk L S D W = ffin .f32 (ft L S W n).2 ∧ (ffin .f32 (ft L S W n).2 = true → ftB L S D W = (ft L S W n).1) ∧ (ffin .f32 (ft L S W n).2 = false → ftB L S D W = 0) := by
  have h1 : ftOk L S D W = ffin .f32 (ft L S W n).2 := by unfold ftOk; rw [hV, hW, hl]; rfl
  refine ⟨h1, fun h => ?_, fun h => ?_⟩
  · unfold ftB; rw [h1, h, if_pos rfl, hl]
  · unfold ftB; rw [h1, h]; rfl
theorem ft_no {L : List Ly} {S D W : Option Nat} (h : (fvalid L S D && fway W) = false) : ftOk L S D W = false ∧ ftB L S D W = 0 := by
  have h1 : ftOk L S D W = false := by unfold ftOk; rw [← Bool.and_assoc, h]; rfl
  exact ⟨h1, by unfold ftB; rw [h1]; rfl⟩
theorem hOk_fin {L : List Ly} {S W : Option Nat} {j : Nat} (h : hOk L S W j = true) : ffin .f32 (headT L S W j) = true := by
  unfold hOk okH at h
  simp only [Bool.and_eq_true] at h
  exact h.2.2

set_option linter.unusedSimpArgs false in
set_option maxRecDepth 20000 in
set_option maxHeartbeats 4000000 in
theorem c_spec_FirstTime {w : World} {n c s d p : Nat} {A : Option Addr} {L : List Ly} {S D W : Option Nat} (h : RdL w A n L) (hn : n ≤ 1048576) (fs : Fl .f32 s S) (fd : Fl .f32 d D) (fp : Fl .f32 p W) :
    Calls Try.prog 29 #[.agg #[.slice A n c, .float .f32 s, .float .f32 d], .float .f32 p] w fun e w' => ∃ r, e = .returned (.tuple #[.int .i64 (ftB L S D W), .float .f32 r, .bool (ftOk L S D W)]) ∧ Fl .f32 r (giveX (ftOk L S D W) (ft L S W L.length).2) ∧ Ext w w' := by
  have hbox : GpAt (w.alloc (.cells #[.slice A n c, .float .f32 s, .float .f32 d] 31)) w.heap.size A n c s d := GpAt.blk (t := 31) (by repeat (first | (refine al_at ?_ ?_ <;> first | rfl | (simp only [al_size] <;> omega)) | apply al_old))
  have hl := h.len
  cases hV : fvalid L S D
  · obtain ⟨e1, e2⟩ := ft_no (L := L) (S := S) (D := D) (W := W) (by rw [hV]; rfl)
    rw [e1, e2]
    clear e1 e2
    simp only [giveX, Bool.false_eq_true, if_false]
    go_enter Try.func29, Try.ntmps29
    go_wp2_with (go_at_call 76; refine Calls.mono (c_l02Is hbox (h.ext (by repeat (first | assumption | exact Ext.refl _ | apply Ext.drewN | apply Ext.drew | apply Ext.alloc | (refine Ext.trans ?_ (by assumption)) | (refine Ext.set ?_ (by dsimp only; omega) _)))) fs fd) ?_; rw [hV]; rintro e w1 ⟨rfl, n1, rfl⟩)
    exact bodyPost_ret (v := .tuple #[.int .i64 0, .float .f32 0, .bool false]) (by simp [results, Try.results29, go_sem]) rfl ⟨0, rfl, fl_fz, (by repeat (first | assumption | exact Ext.refl _ | apply Ext.drewN | apply Ext.drew | apply Ext.alloc | (refine Ext.trans ?_ (by assumption)) | (refine Ext.set ?_ (by dsimp only; omega) _)))⟩
  cases hW : fway W
  · obtain ⟨e1, e2⟩ := ft_no (L := L) (S := S) (D := D) (W := W) (by rw [hW]; simp)
    rw [e1, e2]
    clear e1 e2
    simp only [giveX, Bool.false_eq_true, if_false]
    go_enter Try.func29, Try.ntmps29
    go_wp2_with (first | (go_at_call 76; refine Calls.mono (c_l02Is hbox (h.ext (by repeat (first | assumption | exact Ext.refl _ | apply Ext.drewN | apply Ext.drew | apply Ext.alloc | (refine Ext.trans ?_ (by assumption)) | (refine Ext.set ?_ (by dsimp only; omega) _)))) fs fd) ?_; rw [hV]; rintro e w1 ⟨rfl, n1, rfl⟩) | (go_at_call 60; refine Calls.mono (c_l02Way fp _) ?_; rw [hW]; rintro e w1 ⟨rfl, n1, rfl⟩))
    exact bodyPost_ret (v := .tuple #[.int .i64 0, .float .f32 0, .bool false]) (by simp [results, Try.results29, go_sem]) rfl ⟨0, rfl, fl_fz, (by repeat (first | assumption | exact Ext.refl _ | apply Ext.drewN | apply Ext.drew | apply Ext.alloc | (refine Ext.trans ?_ (by assumption)) | (refine Ext.set ?_ (by dsimp only; omega) _)))⟩
  have HFT := Lib.hid (ft_ok (W := W) hl hV hW)
  rw [hl]
  have hn1 : 1 ≤ n := by
    unfold fvalid at hV
    simp only [Bool.and_eq_true, decide_eq_true_eq] at hV
    omega
  have hWf : ffin .f32 W = true := by unfold fway at hW; rw [Bool.and_eq_true] at hW; exact hW.1
  have hh : ∀ (Wd : World) (k : Nat), k < n → Ext (w.alloc (.cells #[.slice A n c, .float .f32 s, .float .f32 d] 31)) Wd → Calls Try.prog 73 #[.pointer (some ⟨w.heap.size, 0, none⟩), .int .i64 (k : Int), .float .f32 p] Wd fun e w' => ∃ r, e = .returned (.tuple #[.float .f32 r, .bool (hOk L S W k)]) ∧ Fl .f32 r (giveX (hOk L S W k) (headT L S W k)) ∧ Dr Wd w' :=
    fun Wd k hk hx => c_l02Head (w := Wd) (hbox.ext hx) (h.ext (Ext.trans (by repeat (first | assumption | exact Ext.refl _ | apply Ext.drewN | apply Ext.drew | apply Ext.alloc | (refine Ext.trans ?_ (by assumption)) | (refine Ext.set ?_ (by dsimp only; omega) _))) hx)) fs fp (by omega) hn hWf (nng_head h fs hV (by omega)) (fun i hi => pos_layers h hV i (by omega))
  have HH := Lib.hid hh
  obtain ⟨b0, off0, s0, s1, s2, s3, rfl, hb0, hy0⟩ := h.cell (k := 0) (by omega)
  have hd0 : dT L S W = fop .quo .f32 W (L.getD 0 default).s := by unfold dT; rw [fspeed_at (by omega)]
  have HD := Lib.hid hd0
  have q1 := hy0.f1
  have hc1 := hy0.c1
  have hn0 : (0 : Int) < (n : Int) := by omega
  clear hh hd0 hl
  go_enter Try.func29, Try.ntmps29
  go_wp2_with (first | (go_at_call 76; refine Calls.mono (c_l02Is hbox (h.ext (by repeat (first | assumption | exact Ext.refl _ | apply Ext.drewN | apply Ext.drew | apply Ext.alloc | (refine Ext.trans ?_ (by assumption)) | (refine Ext.set ?_ (by dsimp only; omega) _)))) fs fd) ?_; rw [hV]; rintro e w1 ⟨rfl, n1, rfl⟩) | (go_at_call 60; refine Calls.mono (c_l02Way fp _) ?_; rw [hW]; rintro e w1 ⟨rfl, n1, rfl⟩) | (apply upon_fop rfl; (exact fp); (exact q1); intro r2 n2 hr2; rw [← HD.out] at hr2))
  go_loopw [7, 8, 9] (fun bo tm i wr => ∃ j r : Nat, j ≤ n ∧ i = .int .i64 (j : Int) ∧ bo = .int .i64 (ft L S W j).1 ∧ tm = .float .f32 r ∧ Fl .f32 r (ft L S W j).2 ∧ Ext (w.alloc (.cells #[.slice (some ⟨b0, off0, none⟩) n c, .float .f32 s, .float .f32 d] 31)) wr) (fun _ _ i _ => n - (intOf i).toNat)
  case atStart => exact ⟨0, r2, Nat.zero_le _, rfl, rfl, rfl, hr2, (by repeat (first | assumption | exact Ext.refl _ | apply Ext.drewN | apply Ext.drew | apply Ext.alloc | (refine Ext.trans ?_ (by assumption)) | (refine Ext.set ?_ (by dsimp only; omega) _)))⟩
  case round =>
    obtain ⟨j, r, hj, rfl, rfl, rfl, hr, hx⟩ := hrel
    obtain ⟨p0, p1, p2, _⟩ := hbox.ext (w' := wr) hx
    by_cases hlt : j < n
    · have hT' : ft L S W (j + 1) = if hOk L S W j && flt32 (headT L S W j) (ft L S W j).2 then ((j : Int), headT L S W j) else ft L S W j := rfl
      have n1 : (j : Int) < (n : Int) := by omega
      generalize ft L S W j = Z at hr hT' ⊢
      cases hO : hOk L S W j
      · rw [hO, Bool.false_and] at hT'
        have HT := Lib.hid (show ft L S W (j + 1) = Z from hT')
        clear hT'
        go_wp2_with (go_at_call 73; refine Calls.mono (HH.out _ j hlt (by repeat (first | assumption | exact Ext.refl _ | apply Ext.drewN | apply Ext.drew | apply Ext.alloc | (refine Ext.trans ?_ (by assumption)) | (refine Ext.set ?_ (by dsimp only; omega) _)))) ?_; rw [hO]; rintro e w2 ⟨r4, rfl, hr4, n4, rfl⟩)
        exact ⟨⟨j + 1, r, by omega, by go_num, by rw [HT.out], rfl, by rw [HT.out]; exact hr, (by repeat (first | assumption | exact Ext.refl _ | apply Ext.drewN | apply Ext.drew | apply Ext.alloc | (refine Ext.trans ?_ (by assumption)) | (refine Ext.set ?_ (by dsimp only; omega) _)))⟩, by simp [intOf]; omega⟩
      · cases hF : flt32 (headT L S W j) Z.2
        · rw [hO, hF] at hT'
          have HT := Lib.hid (show ft L S W (j + 1) = Z from hT')
          clear hT'
          go_wp2_with (go_at_call 73; refine Calls.mono (HH.out _ j hlt (by repeat (first | assumption | exact Ext.refl _ | apply Ext.drewN | apply Ext.drew | apply Ext.alloc | (refine Ext.trans ?_ (by assumption)) | (refine Ext.set ?_ (by dsimp only; omega) _)))) ?_; rw [hO]; rintro e w2 ⟨r4, rfl, hr4, n4, rfl⟩; have ho4 := Fl.olt (X := headT L S W j) hr4 hr; rw [hF] at ho4)
          exact ⟨⟨j + 1, r, by omega, by go_num, by rw [HT.out], rfl, by rw [HT.out]; exact hr, (by repeat (first | assumption | exact Ext.refl _ | apply Ext.drewN | apply Ext.drew | apply Ext.alloc | (refine Ext.trans ?_ (by assumption)) | (refine Ext.set ?_ (by dsimp only; omega) _)))⟩, by simp [intOf]; omega⟩
        · rw [hO, hF] at hT'
          have HT := Lib.hid (show ft L S W (j + 1) = ((j : Int), headT L S W j) from hT')
          clear hT'
          go_wp2_with (go_at_call 73; refine Calls.mono (HH.out _ j hlt (by repeat (first | assumption | exact Ext.refl _ | apply Ext.drewN | apply Ext.drew | apply Ext.alloc | (refine Ext.trans ?_ (by assumption)) | (refine Ext.set ?_ (by dsimp only; omega) _)))) ?_; rw [hO]; rintro e w2 ⟨r4, rfl, hr4, n4, rfl⟩; have ho4 := Fl.olt (X := headT L S W j) hr4 hr; rw [hF] at ho4)
          exact ⟨⟨j + 1, r4, by omega, by go_num, by rw [HT.out], rfl, by rw [HT.out]; exact hr4, (by repeat (first | assumption | exact Ext.refl _ | apply Ext.drewN | apply Ext.drew | apply Ext.alloc | (refine Ext.trans ?_ (by assumption)) | (refine Ext.set ?_ (by dsimp only; omega) _)))⟩, by simp [intOf]; omega⟩
    · have hjn : j = n := by omega
      subst hjn
      cases hF : ffin .f32 (ft L S W j).2
      · have e1 := Lib.hid (HFT.out.1.trans hF)
        have e2 := Lib.hid (HFT.out.2.2 hF)
        go_wp2_with (go_at_call 62; refine Calls.mono (c_l01Finite hr _) ?_; rw [hF]; rintro e w2 ⟨rfl, n4, rfl⟩)
        exact bodyPost_ret (v := .tuple #[.int .i64 0, .float .f32 0, .bool false]) (by simp [results, Try.results29, go_sem]) rfl ⟨0, by rw [e1.out, e2.out], by rw [e1.out]; exact fl_fz, (by repeat (first | assumption | exact Ext.refl _ | apply Ext.drewN | apply Ext.drew | apply Ext.alloc | (refine Ext.trans ?_ (by assumption)) | (refine Ext.set ?_ (by dsimp only; omega) _)))⟩
      · have e1 := Lib.hid (HFT.out.1.trans hF)
        have e2 := Lib.hid (HFT.out.2.1 hF)
        go_wp2_with (go_at_call 62; refine Calls.mono (c_l01Finite hr _) ?_; rw [hF]; rintro e w2 ⟨rfl, n4, rfl⟩)
        exact bodyPost_ret (v := .tuple #[.int .i64 (ft L S W j).1, .float .f32 r, .bool true]) (by simp [results, Try.results29, go_sem]) rfl ⟨r, by rw [e1.out, e2.out], by rw [e1.out]; exact hr, (by repeat (first | assumption | exact Ext.refl _ | apply Ext.drewN | apply Ext.drew | apply Ext.alloc | (refine Ext.trans ?_ (by assumption)) | (refine Ext.set ?_ (by dsimp only; omega) _)))⟩
set_option maxRecDepth 20000 in
set_option maxHeartbeats 1000000 in
theorem c_surf_arrival {w : World} {v p : Nat} {V W : Option Nat} (fv : Fl .f32 v V) (fp : Fl .f32 p W) :
    Calls Try.prog 144 #[.agg #[.float .f32 v], .float .f32 p] w fun e w' => ∃ r, e = .returned (.tuple #[.float .f32 r, .bool (ffin .f32 (fop .quo .f32 W V))]) ∧ Fl .f32 r (numX (fop .quo .f32 W V)) ∧ Ext w w' := by
  go_enter Try.func144, Try.ntmps144
  go_wp2_with (first | (apply upon_fop rfl; (exact fp); (exact fv); intro r2 n2 hr2) | (go_at_call 71; refine Calls.mono (c_finiteNumber hr2 _) ?_; rintro e w2 ⟨r8, rfl, hr8, n8, rfl⟩))
  go_ret2
  exact ⟨r8, rfl, hr8, (by repeat (first | assumption | exact Ext.refl _ | apply Ext.drewN | apply Ext.drew | apply Ext.alloc | (refine Ext.trans ?_ (by assumption)) | (refine Ext.set ?_ (by dsimp only; omega) _)))⟩
theorem c_surf_boundary {w : World} {v : Nat} :
    Calls Try.prog 145 #[.agg #[.float .f32 v]] w fun e w' => e = .returned (.int .i64 (-1)) ∧ Ext w w' := by
  go_enter Try.func145, Try.ntmps145
  go_wp2_with (fail)
  go_ret
  exact ⟨rfl, (by repeat (first | assumption | exact Ext.refl _ | apply Ext.drewN | apply Ext.drew | apply Ext.alloc | (refine Ext.trans ?_ (by assumption)) | (refine Ext.set ?_ (by dsimp only; omega) _)))⟩
theorem c_head_boundary {w : World} {m c v : Nat} {A : Option Addr} (hm : m ≤ 1048576) :
    Calls Try.prog 143 #[.agg #[.slice A m c, .float .f32 v]] w fun e w' => e = .returned (.int .i64 ((m : Int) - 1)) ∧ Ext w w' := by
  go_enter Try.func143, Try.ntmps143
  go_wp2_with (fail)
  go_ret
  exact ⟨by go_num, (by repeat (first | assumption | exact Ext.refl _ | apply Ext.drewN | apply Ext.drew | apply Ext.alloc | (refine Ext.trans ?_ (by assumption)) | (refine Ext.set ?_ (by dsimp only; omega) _)))⟩
end Go.Proofs.Ytkoiimjpalhgbab
