/- Contracts: what comes first, on the program's side. Condition: the ground is read. -/
import Derived.Test.YtkoiimjpalhgbabWv
namespace Go.Proofs.Ytkoiimjpalhgbab
open Go.RowKit Ieee

theorem inf_of {q : Nat} {W Z : Option Nat} (fw : Fl .f32 q W) (hW : fway W = true) (hs : PosF Z) (hf : ffin .f32 (fop .quo .f32 W Z) = false) : ∃ b, fop .quo .f32 W Z = some b ∧ FloatKind.f32.format.read b = .infinity false := by
  unfold fway at hW
  rw [Bool.and_eq_true] at hW
  obtain ⟨s, m, e, h1⟩ := fin_of fw hW.1
  have hx := fw.eq
  rw [h1.fl] at hx
  subst hx
  cases s
  · have hn : Nng (some q) := ⟨q, rfl, by rw [h1.read]; rfl⟩
    obtain ⟨b, hb, hp⟩ := nng_quo hn hs
    rcases nng_shape hp with ⟨m', e', h2⟩ | h2
    · rw [hb] at hf
      have := h2.ffin
      rw [h2.fl, hf] at this
      cases this
    · exact ⟨b, hb, h2⟩
  · exfalso
    have hg := fw.oge0
    obtain ⟨e0, h0⟩ := fin_zero
    rw [hW.2, h1.order h0] at hg
    have key : ∀ x y : Int, compare x y = if x < y then .lt else if x = y then .eq else .gt := fun x y => rfl
    have e2 : sv false 0 e0 = 0 := by unfold sv; simp
    have e3 : sv true m e = -((m * 2 ^ e : Nat) : Int) := rfl
    rw [e2, e3, key] at hg
    have hm : m = 0 := by
      by_cases hm : m = 0
      · exact hm
      · exfalso
        have hp : 0 < m * 2 ^ e := Nat.mul_pos (by omega) (Nat.two_pow_pos _)
        rw [if_pos (by omega)] at hg
        cases hg
    subst hm
    obtain ⟨c, n, j, rfl, hc, hn⟩ := hs
    have em : fop .quo .f32 (some q) (some c) = ((FloatKind.f32.format.read q).quotient (FloatKind.f32.format.fractionBits + 2) (FloatKind.f32.format.read c)).map FloatKind.f32.format.write := rfl
    rw [em, h1.read, hc.read] at hf
    simp only [Datum.quotient, if_neg hn, Option.map_some, Nat.zero_shiftLeft, Nat.zero_div, Nat.zero_mod, bne_self_eq_false, Bool.toNat_false, Nat.mul_zero, Nat.add_zero, Format.write, Format.nearest, if_true] at hf
    revert hf
    decide +kernel
theorem lt_inf {r b : Nat} {X : Option Nat} (fr : Fl .f32 r X) (hX : ffin .f32 X = true) (hb : FloatKind.f32.format.read b = .infinity false) : flt32 X (some b) = true := by
  obtain ⟨s, m, e, h1⟩ := fin_of fr hX
  have hx := fr.eq
  rw [h1.fl] at hx
  subst hx
  have e9 : ford .f32 (some r) (some b) = FloatKind.f32.format.order r b := rfl
  unfold flt32
  rw [e9]
  unfold Format.order
  rw [h1.read, hb]
  rfl
theorem ft_inf {q : Nat} {L : List Ly} {S W : Option Nat} (fw : Fl .f32 q W) (hW : fway W = true) (hs : PosF (fspeed L S 0)) : ∀ j, ffin .f32 (ft L S W j).2 = false → ∃ b, (ft L S W j).2 = some b ∧ FloatKind.f32.format.read b = .infinity false
  | 0, hf => inf_of fw hW hs hf
  | j + 1, hf => by
    unfold ft at hf ⊢
    by_cases hc : (hOk L S W j && flt32 (headT L S W j) (ft L S W j).2) = true
    · rw [if_pos hc] at hf
      rw [Bool.and_eq_true] at hc
      rw [hOk_fin hc.1] at hf
      cases hf
    · rw [if_neg hc] at hf ⊢
      exact ft_inf fw hW hs j hf
/-- What the program holds behind so many waves. -/
def fiF (L : List Ly) (S W : Option Nat) : Nat → Bool
  | 0 => false
  | j + 1 => ffin .f32 (ft L S W j).2
def fiB (L : List Ly) (S W : Option Nat) : Nat → Int
  | 0 => 0
  | j + 1 => if ffin .f32 (ft L S W j).2 then (ft L S W j).1 else 0
def fiT (L : List Ly) (S W : Option Nat) : Nat → Option Nat
  | 0 => fz
  | j + 1 => giveX (ffin .f32 (ft L S W j).2) (ft L S W j).2
/-- A wave that is taken, and one that is not. -/
theorem fi_take {L : List Ly} {S W : Option Nat} {j : Nat} (h : hOk L S W j = true) (hl : flt32 (headT L S W j) (ft L S W j).2 = true) : fiF L S W (j + 2) = true ∧ fiB L S W (j + 2) = (j : Int) ∧ fiT L S W (j + 2) = headT L S W j := by
  have e : ft L S W (j + 1) = ((j : Int), headT L S W j) := by
    show (if hOk L S W j && flt32 (headT L S W j) (ft L S W j).2 then ((j : Int), headT L S W j) else ft L S W j) = _
    rw [h, hl]; rfl
  have hf := hOk_fin h
  show ffin .f32 (ft L S W (j + 1)).2 = true ∧ (if ffin .f32 (ft L S W (j + 1)).2 then (ft L S W (j + 1)).1 else 0) = (j : Int) ∧ giveX (ffin .f32 (ft L S W (j + 1)).2) (ft L S W (j + 1)).2 = headT L S W j
  rw [e]
  simp only [hf, giveX, if_true]
  exact ⟨trivial, trivial, trivial⟩
theorem fi_keep {L : List Ly} {S W : Option Nat} {j : Nat} (h : (hOk L S W j && flt32 (headT L S W j) (ft L S W j).2) = false) : fiF L S W (j + 2) = fiF L S W (j + 1) ∧ fiB L S W (j + 2) = fiB L S W (j + 1) ∧ fiT L S W (j + 2) = fiT L S W (j + 1) := by
  have e : ft L S W (j + 1) = ft L S W j := by
    show (if hOk L S W j && flt32 (headT L S W j) (ft L S W j).2 then ((j : Int), headT L S W j) else ft L S W j) = _
    rw [h]; rfl
  show ffin .f32 (ft L S W (j + 1)).2 = ffin .f32 (ft L S W j).2 ∧ (if ffin .f32 (ft L S W (j + 1)).2 then (ft L S W (j + 1)).1 else 0) = (if ffin .f32 (ft L S W j).2 then (ft L S W j).1 else 0) ∧ giveX (ffin .f32 (ft L S W (j + 1)).2) (ft L S W (j + 1)).2 = giveX (ffin .f32 (ft L S W j).2) (ft L S W j).2
  rw [e]
  exact ⟨rfl, rfl, rfl⟩

theorem met_sa (x : Value) (w : World) : Sem.run Try.prog (method 240 113 x "loop.example/g01231/impl.arrival") w = .ok (144, x) w := by kernel_rfl
theorem met_sb (x : Value) (w : World) : Sem.run Try.prog (method 240 113 x "loop.example/g01231/impl.boundary") w = .ok (145, x) w := by kernel_rfl
theorem met_ha (x : Value) (w : World) : Sem.run Try.prog (method 240 80 x "loop.example/g01231/impl.arrival") w = .ok (75, x) w := by kernel_rfl
theorem met_hb (x : Value) (w : World) : Sem.run Try.prog (method 240 80 x "loop.example/g01231/impl.boundary") w = .ok (143, x) w := by kernel_rfl
set_option linter.unusedSimpArgs false in
set_option maxRecDepth 20000 in
set_option maxHeartbeats 4000000 in
theorem c_impl_FirstTime {w : World} {n s d p : Nat} {A : Option Addr} {L : List Ly} {S D W : Option Nat} (h : RdL w A n L) (hn : n ≤ 1048576) (fs : Fl .f32 s S) (fd : Fl .f32 d D) (fp : Fl .f32 p W) :
    Calls Try.prog 30 #[.agg #[.slice A n n, .float .f32 s, .float .f32 d], .float .f32 p] w fun e w' => ∃ r, e = .returned (.tuple #[.int .i64 (ftB L S D W), .float .f32 r, .bool (ftOk L S D W)]) ∧ Fl .f32 r (giveX (ftOk L S D W) (ft L S W L.length).2) ∧ Ext w w' := by
  have hbox : GpAt (w.alloc (.cells #[.slice A n n, .float .f32 s, .float .f32 d] 31)) w.heap.size A n n s d := GpAt.blk (t := 31) (by repeat (first | (refine al_at ?_ ?_ <;> first | rfl | (simp only [al_size] <;> omega)) | apply al_old))
  have hl := h.len
  cases hV : fvalid L S D
  · obtain ⟨e1, e2⟩ := ft_no (L := L) (S := S) (D := D) (W := W) (by rw [hV]; rfl)
    rw [e1, e2]
    clear e1 e2
    simp only [giveX, Bool.false_eq_true, if_false]
    go_enter Try.func30, Try.ntmps30
    go_wp2_with (go_at_call 77; refine Calls.mono (c_ValidGround (h.ext (by repeat (first | assumption | exact Ext.refl _ | apply Ext.drewN | apply Ext.drew | apply Ext.alloc | (refine Ext.trans ?_ (by assumption)) | (refine Ext.set ?_ (by dsimp only; omega) _)))) fs fd) ?_; rw [hV]; rintro e w1 ⟨rfl, hx1⟩)
    exact bodyPost_ret (v := .tuple #[.int .i64 0, .float .f32 0, .bool false]) (by simp [results, Try.results30, go_sem]) rfl ⟨0, rfl, fl_fz, (by repeat (first | assumption | exact Ext.refl _ | apply Ext.drewN | apply Ext.drew | apply Ext.alloc | (refine Ext.trans ?_ (by assumption)) | (refine Ext.set ?_ (by dsimp only; omega) _)))⟩
  cases hW : fway W
  · obtain ⟨e1, e2⟩ := ft_no (L := L) (S := S) (D := D) (W := W) (by rw [hW]; simp)
    rw [e1, e2]
    clear e1 e2
    simp only [giveX, Bool.false_eq_true, if_false]
    go_enter Try.func30, Try.ntmps30
    go_wp2_with (first | (go_at_call 77; refine Calls.mono (c_ValidGround (h.ext (by repeat (first | assumption | exact Ext.refl _ | apply Ext.drewN | apply Ext.drew | apply Ext.alloc | (refine Ext.trans ?_ (by assumption)) | (refine Ext.set ?_ (by dsimp only; omega) _)))) fs fd) ?_; rw [hV]; rintro e w1 ⟨rfl, hx1⟩) | (go_at_call 64; refine Calls.mono (c_isDistance fp _) ?_; rw [hW]; rintro e w2 ⟨rfl, n2, rfl⟩))
    exact bodyPost_ret (v := .tuple #[.int .i64 0, .float .f32 0, .bool false]) (by simp [results, Try.results30, go_sem]) rfl ⟨0, rfl, fl_fz, (by repeat (first | assumption | exact Ext.refl _ | apply Ext.drewN | apply Ext.drew | apply Ext.alloc | (refine Ext.trans ?_ (by assumption)) | (refine Ext.set ?_ (by dsimp only; omega) _)))⟩
  have HFT := Lib.hid (ft_ok (W := W) hl hV hW)
  have hn1 : 1 ≤ n := by
    have := hV
    unfold fvalid at this
    simp only [Bool.and_eq_true, decide_eq_true_eq] at this
    omega
  have hs0 : PosF (fspeed L S 0) := by rw [fspeed_at (by omega)]; exact (pos_layers h hV 0 (by omega)).2
  have HINF := Lib.hid (ft_inf (L := L) (S := S) fp hW hs0)
  have hP : ∀ k, k < n → Nng (headP L S k) := fun k hk => nng_head h fs hV (by omega)
  have har : ∀ (Wd : World) (k r : Nat), k < n → Fl .f32 r (fspeed L S (k + 1)) → Ext w Wd → Calls Try.prog 75 #[.agg #[.slice A (k + 1) n, .float .f32 r], .float .f32 p] Wd fun e w' => ∃ r, e = .returned (.tuple #[.float .f32 r, .bool (hOk L S W k)]) ∧ Fl .f32 r (giveX (hOk L S W k) (headT L S W k)) ∧ Ext Wd w' := by
    intro Wd k r hk fr hx
    have h2 := c_arrival (c := n) ((h.take (m := k + 1) (by omega)).ext hx) fr fp (by omega) (hP k hk) rfl
    obtain ⟨t1, t2⟩ := okH_take (L := L) (P := headP L S k) (W := W) (k + 1)
    rw [t1, t2 _ (k + 1) (Nat.le_refl _)] at h2
    exact h2
  have HAR := Lib.hid har
  rw [hl]
  clear har hP hl hs0
  go_enter Try.func30, Try.ntmps30
  go_wp2_with (first | (go_at_call 77; refine Calls.mono (c_ValidGround (h.ext (by repeat (first | assumption | exact Ext.refl _ | apply Ext.drewN | apply Ext.drew | apply Ext.alloc | (refine Ext.trans ?_ (by assumption)) | (refine Ext.set ?_ (by dsimp only; omega) _)))) fs fd) ?_; rw [hV]; rintro e w1 ⟨rfl, hx1⟩; obtain ⟨p0, p1, p2, _⟩ := hbox.ext (w' := w1) (by repeat (first | assumption | exact Ext.refl _ | apply Ext.drewN | apply Ext.drew | apply Ext.alloc | (refine Ext.trans ?_ (by assumption)) | (refine Ext.set ?_ (by dsimp only; omega) _)))) | (go_at_call 64; refine Calls.mono (c_isDistance fp _) ?_; rw [hW]; rintro e w2 ⟨rfl, n2, rfl⟩) | (go_at_call 78; refine Calls.mono (c_wavesOf (h.ext (by repeat (first | assumption | exact Ext.refl _ | apply Ext.drewN | apply Ext.drew | apply Ext.alloc | (refine Ext.trans ?_ (by assumption)) | (refine Ext.set ?_ (by dsimp only; omega) _)))) hn fs fd hV) ?_; rintro e w3 ⟨v, xs, rfl, hown, hxs, hx3⟩; obtain ⟨g, cap, cur, rfl, hgb, hg, hcap, _, hcs, htk⟩ := hown.2.resolve_left (by rintro ⟨_, hz⟩; omega)))
  have hX : Ext w w3 := (by repeat (first | assumption | exact Ext.refl _ | apply Ext.drewN | apply Ext.drew | apply Ext.alloc | (refine Ext.trans ?_ (by assumption)) | (refine Ext.set ?_ (by dsimp only; omega) _)))
  have hcell : ∀ j, j < n + 1 → ∃ u, cur[j]? = some u ∧ WvAt n A L S j u := by
    intro j hj
    obtain ⟨u, h1, h2⟩ := hxs j hj
    refine ⟨u, ?_, h2⟩
    rw [← htk, List.getElem?_take_of_lt (by omega)] at h1
    simpa using h1
  have HC := Lib.hid hcell
  clear hcell hxs htk hown
  go_loopw [7, 8, 9, 25] (fun bo tm fo i wr => ∃ k r : Nat, k ≤ n + 1 ∧ i = .int .i64 (k : Int) ∧ bo = .int .i64 (fiB L S W k) ∧ tm = .float .f32 r ∧ Fl .f32 r (fiT L S W k) ∧ fo = .bool (fiF L S W k) ∧ Ext w3 wr) (fun _ _ _ i _ => n + 1 - (intOf i).toNat)
  case atStart => exact ⟨0, 0, Nat.zero_le _, rfl, rfl, rfl, fl_fz, rfl, (by repeat (first | assumption | exact Ext.refl _ | apply Ext.drewN | apply Ext.drew | apply Ext.alloc | (refine Ext.trans ?_ (by assumption)) | (refine Ext.set ?_ (by dsimp only; omega) _)))⟩
  case round =>
    obtain ⟨k, r, hk, rfl, rfl, rfl, hr, rfl, hx⟩ := hrel
    have hgr := hx.blk hg
    by_cases hlt : k < n + 1
    · obtain ⟨u, hu, hw⟩ := HC.out k hlt
      have hc : wr.cell? ⟨g, k, none⟩ = some u := by rw [cell_of_row wr g _ cur _ (0, 0) hgr]; exact hu
      have n1 : (k : Int) < ((n + 1 : Nat) : Int) := by omega
      have n2 : (k : Int) < (n : Int) + 1 := by omega
      clear hgr hu
      have m1 := met_sa
      have m2 := met_sb
      have m3 := met_ha
      have m4 := met_hb
      cases k with
      | zero =>
        obtain ⟨r1, rfl, hr1⟩ := hw
        have hdT : dT L S W = fop .quo .f32 W (fspeed L S 0) := rfl
        have e0 : fiF L S W 0 = false := rfl
        have e1 : fiF L S W 1 = ffin .f32 (dT L S W) := rfl
        have e2 : fiB L S W 1 = if ffin .f32 (dT L S W) then -1 else 0 := rfl
        have e3 : fiT L S W 1 = giveX (ffin .f32 (dT L S W)) (dT L S W) := rfl
        cases hF : ffin .f32 (dT L S W)
        all_goals
          rw [hF] at e1 e2 e3
          simp only [giveX, Bool.false_eq_true, if_false, if_true] at e2 e3
          have E1 := Lib.hid e1
          have E2 := Lib.hid e2
          have E3 := Lib.hid e3
          clear e1 e2 e3
          go_wp2_with (first | (go_at_call 144; refine Calls.mono (c_surf_arrival hr1 fp) ?_; rw [← hdT, hF]; rintro e w4 ⟨r4, rfl, hr4, hx4⟩) | (go_at_call 145; refine Calls.mono c_surf_boundary ?_; rintro e w5 ⟨rfl, hx5⟩))
        · exact ⟨⟨1, r, by omega, rfl, by rw [E2.out]; rfl, rfl, by rw [E3.out]; exact hr, by rw [E1.out], (by repeat (first | assumption | exact Ext.refl _ | apply Ext.drewN | apply Ext.drew | apply Ext.alloc | (refine Ext.trans ?_ (by assumption)) | (refine Ext.set ?_ (by dsimp only; omega) _)))⟩, by simp [intOf]⟩
        · exact ⟨⟨1, r4, by omega, rfl, by rw [E2.out], rfl, by rw [E3.out]; exact (show numX (dT L S W) = dT L S W from by unfold numX; rw [hF]; rfl) ▸ hr4, by rw [E1.out], (by repeat (first | assumption | exact Ext.refl _ | apply Ext.drewN | apply Ext.drew | apply Ext.alloc | (refine Ext.trans ?_ (by assumption)) | (refine Ext.set ?_ (by dsimp only; omega) _)))⟩, by simp [intOf]⟩
      | succ j =>
        obtain ⟨r1, rfl, hr1⟩ := hw
        have hjn : j < n := by omega
        cases hO : hOk L S W j
        · have KEEP := Lib.hid (fi_keep (L := L) (S := S) (W := W) (j := j) (by rw [hO]; rfl))
          go_wp2_with (first | (go_at_call 75; refine Calls.mono (HAR.out _ j r1 hjn hr1 (by repeat (first | assumption | exact Ext.refl _ | apply Ext.drewN | apply Ext.drew | apply Ext.alloc | (refine Ext.trans ?_ (by assumption)) | (refine Ext.set ?_ (by dsimp only; omega) _)))) ?_; rw [hO]; rintro e w4 ⟨r4, rfl, hr4, hx4⟩; simp only [giveX, Bool.false_eq_true, if_true, if_false] at hr4) | (go_at_call 143; refine Calls.mono (c_head_boundary (by omega)) ?_; rintro e w5 ⟨rfl, hx5⟩))
          exact ⟨⟨j + 2, r, by omega, by go_num, by rw [KEEP.out.2.1], rfl, by rw [KEEP.out.2.2]; exact hr, by rw [KEEP.out.1], (by repeat (first | assumption | exact Ext.refl _ | apply Ext.drewN | apply Ext.drew | apply Ext.alloc | (refine Ext.trans ?_ (by assumption)) | (refine Ext.set ?_ (by dsimp only; omega) _)))⟩, by simp [intOf]; omega⟩
        · cases hf : ffin .f32 (ft L S W j).2
          · have e0 : fiF L S W (j + 1) = false := hf
            obtain ⟨bi, hb1, hb2⟩ := HINF.out j hf
            have HB1 := Lib.hid hb1
            clear hb1
            go_wp2_with (first | (go_at_call 75; refine Calls.mono (HAR.out _ j r1 hjn hr1 (by repeat (first | assumption | exact Ext.refl _ | apply Ext.drewN | apply Ext.drew | apply Ext.alloc | (refine Ext.trans ?_ (by assumption)) | (refine Ext.set ?_ (by dsimp only; omega) _)))) ?_; rw [hO]; rintro e w4 ⟨r4, rfl, hr4, hx4⟩; simp only [giveX, Bool.false_eq_true, if_true, if_false] at hr4) | (go_at_call 143; refine Calls.mono (c_head_boundary (by omega)) ?_; rintro e w5 ⟨rfl, hx5⟩))
            have TAKE := fi_take hO (by rw [HB1.out]; exact lt_inf hr4 (hOk_fin hO) hb2)
            exact ⟨⟨j + 2, r4, by omega, by go_num, by rw [TAKE.2.1], rfl, by rw [TAKE.2.2]; exact hr4, by rw [TAKE.1], (by repeat (first | assumption | exact Ext.refl _ | apply Ext.drewN | apply Ext.drew | apply Ext.alloc | (refine Ext.trans ?_ (by assumption)) | (refine Ext.set ?_ (by dsimp only; omega) _)))⟩, by simp [intOf]; omega⟩
          · have e0 : fiF L S W (j + 1) = true := hf
            have e5 : fiT L S W (j + 1) = (ft L S W j).2 := by show giveX (ffin .f32 (ft L S W j).2) (ft L S W j).2 = _; rw [hf]; rfl
            have hr5 := hr
            rw [e5] at hr5
            cases hL : flt32 (headT L S W j) (ft L S W j).2
            · have KEEP := Lib.hid (fi_keep (L := L) (S := S) (W := W) (j := j) (by rw [hO, hL]; rfl))
              clear e5
              go_wp2_with (first | (go_at_call 75; refine Calls.mono (HAR.out _ j r1 hjn hr1 (by repeat (first | assumption | exact Ext.refl _ | apply Ext.drewN | apply Ext.drew | apply Ext.alloc | (refine Ext.trans ?_ (by assumption)) | (refine Ext.set ?_ (by dsimp only; omega) _)))) ?_; rw [hO]; rintro e w4 ⟨r4, rfl, hr4, hx4⟩; simp only [giveX, Bool.false_eq_true, if_true, if_false] at hr4; have ho4 := Fl.olt hr4 hr5; rw [hL] at ho4) | (go_at_call 143; refine Calls.mono (c_head_boundary (by omega)) ?_; rintro e w5 ⟨rfl, hx5⟩))
              exact ⟨⟨j + 2, r, by omega, by go_num, by rw [KEEP.out.2.1], rfl, by rw [KEEP.out.2.2]; exact hr, by rw [KEEP.out.1, e0], (by repeat (first | assumption | exact Ext.refl _ | apply Ext.drewN | apply Ext.drew | apply Ext.alloc | (refine Ext.trans ?_ (by assumption)) | (refine Ext.set ?_ (by dsimp only; omega) _)))⟩, by simp [intOf]; omega⟩
            · have TAKE := Lib.hid (fi_take hO hL)
              clear e5
              go_wp2_with (first | (go_at_call 75; refine Calls.mono (HAR.out _ j r1 hjn hr1 (by repeat (first | assumption | exact Ext.refl _ | apply Ext.drewN | apply Ext.drew | apply Ext.alloc | (refine Ext.trans ?_ (by assumption)) | (refine Ext.set ?_ (by dsimp only; omega) _)))) ?_; rw [hO]; rintro e w4 ⟨r4, rfl, hr4, hx4⟩; simp only [giveX, Bool.false_eq_true, if_true, if_false] at hr4; have ho4 := Fl.olt hr4 hr5; rw [hL] at ho4) | (go_at_call 143; refine Calls.mono (c_head_boundary (by omega)) ?_; rintro e w5 ⟨rfl, hx5⟩))
              exact ⟨⟨j + 2, r4, by omega, by go_num, by rw [TAKE.out.2.1], rfl, by rw [TAKE.out.2.2]; exact hr4, by rw [TAKE.out.1], (by repeat (first | assumption | exact Ext.refl _ | apply Ext.drewN | apply Ext.drew | apply Ext.alloc | (refine Ext.trans ?_ (by assumption)) | (refine Ext.set ?_ (by dsimp only; omega) _)))⟩, by simp [intOf]; omega⟩
    · have hkn : k = n + 1 := by omega
      subst hkn
      have e1 : fiF L S W (n + 1) = ffin .f32 (ft L S W n).2 := rfl
      have e2 : fiB L S W (n + 1) = if ffin .f32 (ft L S W n).2 then (ft L S W n).1 else 0 := rfl
      have e3 : fiT L S W (n + 1) = giveX (ffin .f32 (ft L S W n).2) (ft L S W n).2 := rfl
      have n3 : ¬ ((n + 1 : Nat) : Int) < (n : Int) + 1 := by omega
      have hB : ftB L S D W = fiB L S W (n + 1) := by
        rw [e2]
        cases hf : ffin .f32 (ft L S W n).2
        · rw [HFT.out.2.2 hf]; rfl
        · rw [HFT.out.2.1 hf]; rfl
      have HB := Lib.hid hB
      have HE := Lib.hid (HFT.out.1.trans e1.symm)
      rw [e3] at hr
      have HR := Lib.hid hr
      clear e1 e2 e3 hB hr
      go_wp2_with (fail)
      exact bodyPost_ret (v := .tuple #[.int .i64 (fiB L S W (n + 1)), .float .f32 r, .bool (fiF L S W (n + 1))]) (by simp [results, Try.results30, go_sem]) rfl ⟨r, by rw [HB.out, HE.out], by rw [HFT.out.1]; exact HR.out, (by repeat (first | assumption | exact Ext.refl _ | apply Ext.drewN | apply Ext.drew | apply Ext.alloc | (refine Ext.trans ?_ (by assumption)) | (refine Ext.set ?_ (by dsimp only; omega) _)))⟩
end Go.Proofs.Ytkoiimjpalhgbab
