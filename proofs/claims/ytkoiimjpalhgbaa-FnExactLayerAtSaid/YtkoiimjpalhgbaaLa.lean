/- Contracts: the layer at a depth, and its speed, on both sides. Condition: the ground is read. -/
import Derived.Test.YtkoiimjpalhgbaaDl
namespace Go.Proofs.Ytkoiimjpalhgbaa
open Go.RowKit Ieee

/-- The first of n numbers above x, or n. -/
def fat (F : Nat → Option Nat) (x : Option Nat) : Nat → Nat
  | 0 => 0
  | n + 1 => if fat F x n < n then fat F x n else if flt32 x (F n) = true then n else n + 1
theorem fat_no {F : Nat → Option Nat} {x : Option Nat} : ∀ {k : Nat}, (∀ j, j < k → flt32 x (F j) = false) → fat F x k = k
  | 0, _ => rfl
  | k + 1, h => by
    have h1 := fat_no (k := k) (fun j hj => h j (by omega))
    have h2 := h k (by omega)
    unfold fat
    rw [h1, if_neg (Nat.lt_irrefl k), h2]; rfl
theorem fat_yes {F : Nat → Option Nat} {x : Option Nat} {k : Nat} (h : ∀ j, j < k → flt32 x (F j) = false) (h1 : flt32 x (F k) = true) : ∀ {n : Nat}, k < n → fat F x n = k
  | n + 1, hn => by
    unfold fat
    by_cases hk : k = n
    · subst hk
      rw [fat_no h, if_neg (Nat.lt_irrefl k), h1]; rfl
    · rw [fat_yes h h1 (n := n) (by omega), if_pos (by omega)]
theorem fat_le (F : Nat → Option Nat) (x : Option Nat) : ∀ n, fat F x n ≤ n
  | 0 => Nat.le_refl _
  | n + 1 => by unfold fat; split <;> (try split) <;> omega
theorem step_no {F : Nat → Option Nat} {x : Option Nat} {k : Nat} (h : ∀ j, j < k → flt32 x (F j) = false) (h1 : flt32 x (F k) = false) : ∀ j, j < k + 1 → flt32 x (F j) = false := by
  intro j hj
  by_cases hjk : j = k
  · subst hjk; exact h1
  · exact h j (by omega)

set_option maxRecDepth 20000 in
set_option maxHeartbeats 2000000 in
theorem c_l02At {w : World} {b n c s d p : Nat} {A : Option Addr} {L : List Ly} {P : Option Nat} (hp : GpAt w b A n c s d) (h : RdL w A n L) (fp : Fl .f32 p P) (hn : n ≤ 1048576) :
    Calls Try.prog 62 #[.pointer (some ⟨b, 0, none⟩), .float .f32 p] w fun e w' => e = .returned (.int .i64 ((fat (fdep L) P n : Nat) : Int)) ∧ Ext w w' := by
  go_enter Try.func62, Try.ntmps62
  go_wp2_with (go_at_call 57; refine Calls.mono (c_l02Depths (hp.ext (by repeat (first | assumption | exact Ext.refl _ | apply Ext.drewN | apply Ext.drew | apply Ext.alloc | (refine Ext.trans ?_ (by assumption)) | (refine Ext.set ?_ (by dsimp only; omega) _)))) (h.ext (by repeat (first | assumption | exact Ext.refl _ | apply Ext.drewN | apply Ext.drew | apply Ext.alloc | (refine Ext.trans ?_ (by assumption)) | (refine Ext.set ?_ (by dsimp only; omega) _)))) hn) ?_; rintro e w2 ⟨v, rfl, ho, hx2⟩; obtain ⟨A2, c2, rfl, ho2⟩ := ho.owl)
  go_loopw [6] (fun i wr => ∃ k : Nat, k ≤ n ∧ i = .int .i64 k ∧ (∀ j, j < k → flt32 P (fdep L j) = false) ∧ wr = w2) (fun i _ => n - (intOf i).toNat)
  case atStart => exact ⟨0, Nat.zero_le _, rfl, fun j hj => absurd hj (Nat.not_lt_zero _), rfl⟩
  case round =>
    obtain ⟨k, hk, rfl, ha, rfl⟩ := hrel
    have HA := Lib.hid ha
    clear ha
    by_cases hlt : k < n
    · obtain ⟨g, off, r, rfl, hb, hc, hr⟩ := ho2.rd.cell hlt
      rw [lst_at hlt] at hr
      have ho3 := fp.olt hr
      have hlt' : (k : Int) < (n : Int) := by omega
      cases hF : flt32 P (fdep L k)
      all_goals
        have HO := Lib.hid (show (FloatKind.f32.format.order p r == some .lt) = _ from ho3.trans hF)
        have ho4 := HO.out
      · clear ho3 hr
        go_wp2_with (fail)
        exact ⟨⟨k + 1, by omega, by go_num, step_no HA.out hF, by first | trivial | rfl⟩, by simp [intOf]; omega⟩
      · have hend := Lib.hid (fat_yes HA.out hF hlt)
        clear ho3 hr
        go_wp2_with (fail)
        go_ret
        exact ⟨by rw [hend.out]; rfl, hx2⟩
    · have hkn : k = n := by omega
      subst hkn
      have hend := Lib.hid (fat_no HA.out)
      go_wp2_with (fail)
      go_ret
      exact ⟨by rw [hend.out]; rfl, hx2⟩
def atOk (L : List Ly) (S D P : Option Nat) : Bool := fvalid L S D && ge0 P
def atN (L : List Ly) (S D P : Option Nat) : Nat := if atOk L S D P then fat (fdep L) P L.length else 0
set_option maxRecDepth 20000 in
set_option maxHeartbeats 1000000 in
theorem c_spec_LayerAt {w : World} {n c s d p : Nat} {A : Option Addr} {L : List Ly} {S D P : Option Nat} (h : RdL w A n L) (hn : n ≤ 1048576) (fs : Fl .f32 s S) (fd : Fl .f32 d D) (fp : Fl .f32 p P) :
    Calls Try.prog 28 #[.agg #[.slice A n c, .float .f32 s, .float .f32 d], .float .f32 p] w fun e w' => e = .returned (.tuple #[.int .i64 ((atN L S D P : Nat) : Int), .bool (atOk L S D P)]) ∧ Ext w w' := by
  have hbox : GpAt (w.alloc (.cells #[.slice A n c, .float .f32 s, .float .f32 d] 30)) w.heap.size A n c s d := GpAt.blk (t := 30) (by repeat (first | (refine al_at ?_ ?_ <;> first | rfl | (simp only [al_size] <;> omega)) | apply al_old))
  have hge := fp.oge0
  have hl := h.len
  unfold atN atOk
  cases hV : fvalid L S D <;> cases hP : ge0 P
  all_goals
    rw [hP] at hge
    simp only [Bool.false_and, Bool.true_and, Bool.and_false, Bool.false_eq_true, if_false, if_true, hl]
    go_enter Try.func28, Try.ntmps28
    go_wp2_with (first | (go_at_call 48; refine Calls.mono (c_l02Is hbox (h.ext (by repeat (first | assumption | exact Ext.refl _ | apply Ext.drewN | apply Ext.drew | apply Ext.alloc | (refine Ext.trans ?_ (by assumption)) | (refine Ext.set ?_ (by dsimp only; omega) _)))) fs fd) ?_; rw [hV]; rintro e w1 ⟨rfl, n1, rfl⟩) | (go_at_call 62; refine Calls.mono (c_l02At (hbox.ext (by repeat (first | assumption | exact Ext.refl _ | apply Ext.drewN | apply Ext.drew | apply Ext.alloc | (refine Ext.trans ?_ (by assumption)) | (refine Ext.set ?_ (by dsimp only; omega) _)))) (h.ext (by repeat (first | assumption | exact Ext.refl _ | apply Ext.drewN | apply Ext.drew | apply Ext.alloc | (refine Ext.trans ?_ (by assumption)) | (refine Ext.set ?_ (by dsimp only; omega) _)))) fp hn) ?_; rintro e w2 ⟨rfl, hx2⟩))
    go_ret2
    exact ⟨rfl, (by repeat (first | assumption | exact Ext.refl _ | apply Ext.drewN | apply Ext.drew | apply Ext.alloc | (refine Ext.trans ?_ (by assumption)) | (refine Ext.set ?_ (by dsimp only; omega) _)))⟩
set_option maxRecDepth 20000 in
set_option maxHeartbeats 2000000 in
theorem c_impl_LayerAt {w : World} {n c s d p : Nat} {A : Option Addr} {L : List Ly} {S D P : Option Nat} (h : RdL w A n L) (hn : n ≤ 1048576) (fs : Fl .f32 s S) (fd : Fl .f32 d D) (fp : Fl .f32 p P) :
    Calls Try.prog 29 #[.agg #[.slice A n c, .float .f32 s, .float .f32 d], .float .f32 p] w fun e w' => e = .returned (.tuple #[.int .i64 ((atN L S D P : Nat) : Int), .bool (atOk L S D P)]) ∧ Ext w w' := by
  have hbox : GpAt (w.alloc (.cells #[.slice A n c, .float .f32 s, .float .f32 d] 30)) w.heap.size A n c s d := GpAt.blk (t := 30) (by repeat (first | (refine al_at ?_ ?_ <;> first | rfl | (simp only [al_size] <;> omega)) | apply al_old))
  have hge := fp.oge0
  have hl := h.len
  unfold atN atOk
  cases hV : fvalid L S D
  · simp only [Bool.false_and, Bool.false_eq_true, if_false]
    go_enter Try.func29, Try.ntmps29
    go_wp2_with (go_at_call 18; refine Calls.mono (c_ValidGround (h.ext (by repeat (first | assumption | exact Ext.refl _ | apply Ext.drewN | apply Ext.drew | apply Ext.alloc | (refine Ext.trans ?_ (by assumption)) | (refine Ext.set ?_ (by dsimp only; omega) _)))) fs fd) ?_; rw [hV]; rintro e w1 ⟨rfl, hx1⟩; obtain ⟨p0, p1, p2, _⟩ := hbox.ext (w' := w1) (by repeat (first | assumption | exact Ext.refl _ | apply Ext.drewN | apply Ext.drew | apply Ext.alloc | (refine Ext.trans ?_ (by assumption)) | (refine Ext.set ?_ (by dsimp only; omega) _))))
    go_ret2
    exact ⟨rfl, (by repeat (first | assumption | exact Ext.refl _ | apply Ext.drewN | apply Ext.drew | apply Ext.alloc | (refine Ext.trans ?_ (by assumption)) | (refine Ext.set ?_ (by dsimp only; omega) _)))⟩
  cases hP : ge0 P
  · rw [hP] at hge
    simp only [Bool.and_false, Bool.false_eq_true, if_false]
    go_enter Try.func29, Try.ntmps29
    go_wp2_with (go_at_call 18; refine Calls.mono (c_ValidGround (h.ext (by repeat (first | assumption | exact Ext.refl _ | apply Ext.drewN | apply Ext.drew | apply Ext.alloc | (refine Ext.trans ?_ (by assumption)) | (refine Ext.set ?_ (by dsimp only; omega) _)))) fs fd) ?_; rw [hV]; rintro e w1 ⟨rfl, hx1⟩; obtain ⟨p0, p1, p2, _⟩ := hbox.ext (w' := w1) (by repeat (first | assumption | exact Ext.refl _ | apply Ext.drewN | apply Ext.drew | apply Ext.alloc | (refine Ext.trans ?_ (by assumption)) | (refine Ext.set ?_ (by dsimp only; omega) _))))
    go_ret2
    exact ⟨rfl, (by repeat (first | assumption | exact Ext.refl _ | apply Ext.drewN | apply Ext.drew | apply Ext.alloc | (refine Ext.trans ?_ (by assumption)) | (refine Ext.set ?_ (by dsimp only; omega) _)))⟩
  rw [hP] at hge
  simp only [Bool.true_and, if_true, hl]
  go_enter Try.func29, Try.ntmps29
  go_wp2_with (first | (go_at_call 18; refine Calls.mono (c_ValidGround (h.ext (by repeat (first | assumption | exact Ext.refl _ | apply Ext.drewN | apply Ext.drew | apply Ext.alloc | (refine Ext.trans ?_ (by assumption)) | (refine Ext.set ?_ (by dsimp only; omega) _)))) fs fd) ?_; rw [hV]; rintro e w1 ⟨rfl, hx1⟩; obtain ⟨p0, p1, p2, _⟩ := hbox.ext (w' := w1) (by repeat (first | assumption | exact Ext.refl _ | apply Ext.drewN | apply Ext.drew | apply Ext.alloc | (refine Ext.trans ?_ (by assumption)) | (refine Ext.set ?_ (by dsimp only; omega) _)))) | (go_at_call 59; refine Calls.mono (c_sums_thickOf (h.ext (by repeat (first | assumption | exact Ext.refl _ | apply Ext.drewN | apply Ext.drew | apply Ext.alloc | (refine Ext.trans ?_ (by assumption)) | (refine Ext.set ?_ (by dsimp only; omega) _)))) hn) ?_; rintro e w2 ⟨v, rfl, ho, hx2⟩; obtain ⟨A2, c2, rfl, ho2⟩ := ho.owl; obtain ⟨p0, p1, p2, _⟩ := hbox.ext (w' := w2) (by repeat (first | assumption | exact Ext.refl _ | apply Ext.drewN | apply Ext.drew | apply Ext.alloc | (refine Ext.trans ?_ (by assumption)) | (refine Ext.set ?_ (by dsimp only; omega) _)))))
  have hX : Ext w w2 := (by repeat (first | assumption | exact Ext.refl _ | apply Ext.drewN | apply Ext.drew | apply Ext.alloc | (refine Ext.trans ?_ (by assumption)) | (refine Ext.set ?_ (by dsimp only; omega) _)))
  go_loopw [20] (fun i wr => ∃ k : Nat, k ≤ n ∧ i = .int .i64 k ∧ (∀ j, j < k → flt32 P (fdep L j) = false) ∧ wr = w2) (fun i _ => n - (intOf i).toNat)
  case atStart => exact ⟨0, Nat.zero_le _, rfl, fun j hj => absurd hj (Nat.not_lt_zero _), rfl⟩
  case round =>
    obtain ⟨k, hk, rfl, ha, rfl⟩ := hrel
    have HA := Lib.hid ha
    clear ha
    by_cases hlt : k < n
    · obtain ⟨g, off, r, rfl, hb, hc, hr⟩ := ho2.rd.cell hlt
      rw [lst_at hlt] at hr
      have ho3 := fp.olt hr
      have hlt' : (k : Int) < (n : Int) := by omega
      cases hF : flt32 P (fdep L k)
      all_goals
        have HO := Lib.hid (show (FloatKind.f32.format.order p r == some .lt) = _ from ho3.trans hF)
        have ho4 := HO.out
      · clear ho3 hr
        go_wp2_with (fail)
        exact ⟨⟨k + 1, by omega, by go_num, step_no HA.out hF, by first | trivial | rfl⟩, by simp [intOf]; omega⟩
      · have hend := Lib.hid (fat_yes HA.out hF hlt)
        clear ho3 hr
        go_wp2_with (fail)
        go_ret2
        exact ⟨by rw [hend.out]; rfl, hX⟩
    · have hkn : k = n := by omega
      subst hkn
      have hend := Lib.hid (fat_no HA.out)
      go_wp2_with (fail)
      go_ret2
      exact ⟨by rw [hend.out]; rfl, hX⟩
set_option maxRecDepth 20000 in
set_option maxHeartbeats 1000000 in
theorem c_spec_SpeedAt {w : World} {n c s d p : Nat} {A : Option Addr} {L : List Ly} {S D P : Option Nat} (h : RdL w A n L) (hn : n ≤ 1048576) (fs : Fl .f32 s S) (fd : Fl .f32 d D) (fp : Fl .f32 p P) :
    Calls Try.prog 30 #[.agg #[.slice A n c, .float .f32 s, .float .f32 d], .float .f32 p] w fun e w' => ∃ r, e = .returned (.tuple #[.float .f32 r, .bool (atOk L S D P)]) ∧ Fl .f32 r (giveX (atOk L S D P) (fspeed L S (fat (fdep L) P L.length))) ∧ Ext w w' := by
  have hbox : GpAt (w.alloc (.cells #[.slice A n c, .float .f32 s, .float .f32 d] 30)) w.heap.size A n c s d := GpAt.blk (t := 30) (by repeat (first | (refine al_at ?_ ?_ <;> first | rfl | (simp only [al_size] <;> omega)) | apply al_old))
  have hge := fp.oge0
  have hl := h.len
  unfold atOk
  have hle := fat_le (fdep L) P n
  cases hV : fvalid L S D <;> cases hP : ge0 P
  all_goals
    rw [hP] at hge
    simp only [giveX, Bool.false_and, Bool.true_and, Bool.and_false, Bool.false_eq_true, if_false, if_true, hl]
    go_enter Try.func30, Try.ntmps30
    go_wp2_with (first | (go_at_call 48; refine Calls.mono (c_l02Is hbox (h.ext (by repeat (first | assumption | exact Ext.refl _ | apply Ext.drewN | apply Ext.drew | apply Ext.alloc | (refine Ext.trans ?_ (by assumption)) | (refine Ext.set ?_ (by dsimp only; omega) _)))) fs fd) ?_; rw [hV]; rintro e w1 ⟨rfl, n1, rfl⟩) | (go_at_call 62; refine Calls.mono (c_l02At (hbox.ext (by repeat (first | assumption | exact Ext.refl _ | apply Ext.drewN | apply Ext.drew | apply Ext.alloc | (refine Ext.trans ?_ (by assumption)) | (refine Ext.set ?_ (by dsimp only; omega) _)))) (h.ext (by repeat (first | assumption | exact Ext.refl _ | apply Ext.drewN | apply Ext.drew | apply Ext.alloc | (refine Ext.trans ?_ (by assumption)) | (refine Ext.set ?_ (by dsimp only; omega) _)))) fp hn) ?_; rintro e w2 ⟨rfl, hx2⟩) | (go_at_call 63; refine Calls.mono (c_l02Speed (hbox.ext (by repeat (first | assumption | exact Ext.refl _ | apply Ext.drewN | apply Ext.drew | apply Ext.alloc | (refine Ext.trans ?_ (by assumption)) | (refine Ext.set ?_ (by dsimp only; omega) _)))) (h.ext (by repeat (first | assumption | exact Ext.refl _ | apply Ext.drewN | apply Ext.drew | apply Ext.alloc | (refine Ext.trans ?_ (by assumption)) | (refine Ext.set ?_ (by dsimp only; omega) _)))) fs hle hn) ?_; rintro e w3 ⟨r3, rfl, hr3, rfl⟩))
    go_ret2
    first | exact ⟨_, rfl, fl_fz, (by repeat (first | assumption | exact Ext.refl _ | apply Ext.drewN | apply Ext.drew | apply Ext.alloc | (refine Ext.trans ?_ (by assumption)) | (refine Ext.set ?_ (by dsimp only; omega) _)))⟩ | exact ⟨_, rfl, by assumption, (by repeat (first | assumption | exact Ext.refl _ | apply Ext.drewN | apply Ext.drew | apply Ext.alloc | (refine Ext.trans ?_ (by assumption)) | (refine Ext.set ?_ (by dsimp only; omega) _)))⟩
set_option maxRecDepth 20000 in
set_option maxHeartbeats 1000000 in
theorem c_impl_SpeedAt {w : World} {n c s d p : Nat} {A : Option Addr} {L : List Ly} {S D P : Option Nat} (h : RdL w A n L) (hn : n ≤ 1048576) (fs : Fl .f32 s S) (fd : Fl .f32 d D) (fp : Fl .f32 p P) :
    Calls Try.prog 31 #[.agg #[.slice A n c, .float .f32 s, .float .f32 d], .float .f32 p] w fun e w' => ∃ r, e = .returned (.tuple #[.float .f32 r, .bool (atOk L S D P)]) ∧ Fl .f32 r (giveX (atOk L S D P) (fspeed L S (fat (fdep L) P L.length))) ∧ Ext w w' := by
  have hbox : GpAt (w.alloc (.cells #[.slice A n c, .float .f32 s, .float .f32 d] 30)) w.heap.size A n c s d := GpAt.blk (t := 30) (by repeat (first | (refine al_at ?_ ?_ <;> first | rfl | (simp only [al_size] <;> omega)) | apply al_old))
  have hl := h.len
  have key := fun W hx => c_impl_LayerAt (w := W) (h.ext hx) hn fs fd fp (c := c)
  have hle := fat_le (fdep L) P n
  cases hB : atOk L S D P
  · rw [hB] at key
    simp only [giveX, Bool.false_eq_true, if_false]
    go_enter Try.func31, Try.ntmps31
    go_wp2_with (go_at_call 29; refine Calls.mono (key _ (by repeat (first | assumption | exact Ext.refl _ | apply Ext.drewN | apply Ext.drew | apply Ext.alloc | (refine Ext.trans ?_ (by assumption)) | (refine Ext.set ?_ (by dsimp only; omega) _)))) ?_; rintro e w1 ⟨rfl, hx1⟩; obtain ⟨p0, p1, p2, _⟩ := hbox.ext (w' := w1) (by repeat (first | assumption | exact Ext.refl _ | apply Ext.drewN | apply Ext.drew | apply Ext.alloc | (refine Ext.trans ?_ (by assumption)) | (refine Ext.set ?_ (by dsimp only; omega) _))))
    go_ret2
    exact ⟨_, rfl, fl_fz, (by repeat (first | assumption | exact Ext.refl _ | apply Ext.drewN | apply Ext.drew | apply Ext.alloc | (refine Ext.trans ?_ (by assumption)) | (refine Ext.set ?_ (by dsimp only; omega) _)))⟩
  · have hat : atN L S D P = fat (fdep L) P n := by unfold atN; rw [hB, if_pos rfl, hl]
    rw [hB, hat] at key
    have hV : fvalid L S D = true := by unfold atOk at hB; rw [Bool.and_eq_true] at hB; exact hB.1
    simp only [giveX, if_true, hl]
    generalize fat (fdep L) P n = k at key hle ⊢
    go_enter Try.func31, Try.ntmps31
    go_wp2_with (first | (go_at_call 29; refine Calls.mono (key _ (by repeat (first | assumption | exact Ext.refl _ | apply Ext.drewN | apply Ext.drew | apply Ext.alloc | (refine Ext.trans ?_ (by assumption)) | (refine Ext.set ?_ (by dsimp only; omega) _)))) ?_; rintro e w1 ⟨rfl, hx1⟩; obtain ⟨p0, p1, p2, _⟩ := hbox.ext (w' := w1) (by repeat (first | assumption | exact Ext.refl _ | apply Ext.drewN | apply Ext.drew | apply Ext.alloc | (refine Ext.trans ?_ (by assumption)) | (refine Ext.set ?_ (by dsimp only; omega) _)))) | (go_at_call 64; refine Calls.mono (c_partOf_yes (h.ext (by repeat (first | assumption | exact Ext.refl _ | apply Ext.drewN | apply Ext.drew | apply Ext.alloc | (refine Ext.trans ?_ (by assumption)) | (refine Ext.set ?_ (by dsimp only; omega) _)))) hn fs fd hV hle) ?_; rintro e w2 ⟨r0, r1, r2, r3, rfl, hr1, hr2, hx2⟩))
    go_ret2
    exact ⟨_, rfl, by assumption, (by repeat (first | assumption | exact Ext.refl _ | apply Ext.drewN | apply Ext.drew | apply Ext.alloc | (refine Ext.trans ?_ (by assumption)) | (refine Ext.set ?_ (by dsimp only; omega) _)))⟩
end Go.Proofs.Ytkoiimjpalhgbaa
