/- Contracts: the echoes of boundaries, on both sides. Condition: the ground is read. -/
import Derived.Test.YtkoiimjpalhgbabMe
import Derived.Test.YtkoiimjpalhgbabRs
namespace Go.Proofs.Ytkoiimjpalhgbab
open Go.RowKit Ieee

def ekeep (L : List Ly) (j : Nat) : Option Nat := fop .sub .f32 fu (L.getD j default).l
def etd (T K : Option Nat) : Option Nat := fop .mul .f32 (fop .mul .f32 T K) K
def ete (L : List Ly) (S D : Option Nat) : Nat → Option Nat
  | 0 => fu
  | j + 1 => fop .mul .f32 (etd (ete L S D j) (ekeep L j)) (fop .sub .f32 fu (fop .mul .f32 (fstraight L S D j) (fstraight L S D j)))
def fech (L : List Ly) (S D : Option Nat) (j : Nat) : Option Nat := fop .mul .f32 (fstraight L S D j) (etd (ete L S D j) (ekeep L j))
def okE (L : List Ly) (S D : Option Nat) : Bool := fvalid L S D && finL (lst (fech L S D) L.length)
theorem mul_notfin {X Y : Option Nat} (h : ffin .f32 X = false) : ffin .f32 (fop .mul .f32 X Y) = false := by
  cases X with
  | none => rfl
  | some x =>
    cases Y with
    | none => rfl
    | some y =>
      have e : fop .mul .f32 (some x) (some y) = ((FloatKind.f32.format.read x).product (FloatKind.f32.format.read y)).map FloatKind.f32.format.write := rfl
      have hf : ffin .f32 (some x) = !(FloatKind.f32.format.read x).isInfinity := rfl
      have hw : ∀ s : Bool, ffin .f32 (some (FloatKind.f32.format.write (.infinity s))) = false := by intro s; cases s <;> decide +kernel
      rw [e]
      rw [hf] at h
      cases hx : FloatKind.f32.format.read x with
      | nan u v => cases FloatKind.f32.format.read y <;> rfl
      | number u v z => rw [hx] at h; simp [Datum.isInfinity] at h
      | infinity s =>
        cases hy : FloatKind.f32.format.read y with
        | nan u v => rfl
        | infinity t => simp only [Datum.product, Option.map_some]; exact hw _
        | number t v z =>
          simp only [Datum.product]
          split
          · rfl
          · simp only [Option.map_some]; exact hw _

set_option maxRecDepth 20000 in
set_option maxHeartbeats 4000000 in
theorem c_spec_StraightEchoes {w : World} {n c s d : Nat} {A : Option Addr} {L : List Ly} {S D : Option Nat} (h : RdL w A n L) (hn : n ≤ 1048576) (fs : Fl .f32 s S) (fd : Fl .f32 d D) :
    Calls Try.prog 31 #[.agg #[.slice A n c, .float .f32 s, .float .f32 d]] w fun e w' => RetL w e w' (okE L S D) (lst (fech L S D) L.length) := by
  have hbox : GpAt (w.alloc (.cells #[.slice A n c, .float .f32 s, .float .f32 d] 31)) w.heap.size A n c s d := GpAt.blk (t := 31) (by repeat (first | (refine al_at ?_ ?_ <;> first | rfl | (simp only [al_size] <;> omega)) | apply al_old))
  have hl := h.len
  obtain ⟨i0, hi, hz0, hz1, hz2⟩ := info_parts info_f32
  unfold okE
  cases hV : fvalid L S D
  · go_enter Try.func31, Try.ntmps31
    go_wp2_with (go_at_call 76; refine Calls.mono (c_l02Is hbox (h.ext (by repeat (first | assumption | exact Ext.refl _ | apply Ext.drewN | apply Ext.drew | apply Ext.alloc | (refine Ext.trans ?_ (by assumption)) | (refine Ext.set ?_ (by dsimp only; omega) _)))) fs fd) ?_; rw [hV]; rintro e w1 ⟨rfl, n1, rfl⟩)
    go_ret2
    exact retL_no rfl (by repeat (first | assumption | exact Ext.refl _ | apply Ext.drewN | apply Ext.drew | apply Ext.alloc | (refine Ext.trans ?_ (by assumption)) | (refine Ext.set ?_ (by dsimp only; omega) _)))
  rw [hl, Bool.true_and]
  have hst : ∀ (W : World) (k : Nat), Ext (w.alloc (.cells #[.slice A n c, .float .f32 s, .float .f32 d] 31)) W → k + 1 ≤ n → Calls Try.prog 79 #[.pointer (some ⟨w.heap.size, 0, none⟩), .int .i64 (k : Int)] W fun e w' => ∃ r, e = .returned (.float .f32 r) ∧ Fl .f32 r (fstraight L S D k) ∧ Dr W w' :=
    fun W k hx hk => c_l02Straight (hbox.ext hx) (h.ext (Ext.trans (by repeat (first | assumption | exact Ext.refl _ | apply Ext.drewN | apply Ext.drew | apply Ext.alloc | (refine Ext.trans ?_ (by assumption)) | (refine Ext.set ?_ (by dsimp only; omega) _))) hx)) fs fd hk hn
  have HST := Lib.hid hst
  clear hst hl
  go_enter Try.func31, Try.ntmps31
  go_wp2_with (go_at_call 76; refine Calls.mono (c_l02Is hbox (h.ext (by repeat (first | assumption | exact Ext.refl _ | apply Ext.drewN | apply Ext.drew | apply Ext.alloc | (refine Ext.trans ?_ (by assumption)) | (refine Ext.set ?_ (by dsimp only; omega) _)))) fs fd) ?_; rw [hV]; rintro e w1 ⟨rfl, hdr⟩; have hXb := Ext.dr (Ext.refl _) hdr; clear hdr; obtain ⟨p0, p1, p2, _⟩ := hbox.ext (w' := w1) hXb)
  have hX : Ext w w1 := (by repeat (first | assumption | exact Ext.refl _ | apply Ext.drewN | apply Ext.drew | apply Ext.alloc | (refine Ext.trans ?_ (by assumption)) | (refine Ext.set ?_ (by dsimp only; omega) _)))
  have z1 := hX.size
  go_loopw [4, 5, 6] (fun tt v i wr => ∃ (k r : Nat) (xs : List Value), k ≤ n ∧ i = .int .i64 k ∧ tt = .float .f32 r ∧ Fl .f32 r (ete L S D k) ∧ wr.ownsRow w1.heap.size 23 1 v k xs ∧ (∀ j, j < k → ∃ r, xs[j]? = some (.float .f32 r) ∧ Fl .f32 r (fech L S D j)) ∧ Ext w1 wr) (fun _ _ i _ => n - (intOf i).toNat)
  case atStart => exact ⟨0, _, [], Nat.zero_le _, rfl, rfl, fl_fu, World.ownsRow_made w1 _ 0 (Nat.le_refl _) (Nat.zero_le _) rfl, fun j hj => absurd hj (Nat.not_lt_zero _), (by repeat (first | assumption | exact Ext.refl _ | apply Ext.drewN | apply Ext.drew | apply Ext.alloc | (refine Ext.trans ?_ (by assumption)) | (refine Ext.set ?_ (by dsimp only; omega) _)))⟩
  case round =>
    obtain ⟨k, r, xs, hk, rfl, rfl, hr, hown, hxs, hx⟩ := hrel
    have HX := Lib.hid hxs
    clear hxs
    have hxw : Ext w wr := hX.trans hx
    have hxb := hXb.trans hx
    have zw := hx.size
    obtain ⟨p0, p1, p2, _⟩ := hbox.ext (w' := wr) (hXb.trans hx)
    by_cases hlt : k < n
    · obtain ⟨b', off, r0, r1, r2, r3, rfl, hb', hy⟩ := (h.ext hxw).cell hlt
      have hc3 := hy.c3
      have q3 := hy.f3
      have hT : ete L S D (k + 1) = fop .mul .f32 (fop .mul .f32 (fop .mul .f32 (ete L S D k) (fop .sub .f32 fu (L.getD k default).l)) (fop .sub .f32 fu (L.getD k default).l)) (fop .sub .f32 fu (fop .mul .f32 (fstraight L S D k) (fstraight L S D k))) := rfl
      have hU : fech L S D k = fop .mul .f32 (fstraight L S D k) (fop .mul .f32 (fop .mul .f32 (ete L S D k) (fop .sub .f32 fu (L.getD k default).l)) (fop .sub .f32 fu (L.getD k default).l)) := rfl
      have HT := Lib.hid hT
      have HU := Lib.hid hU
      clear hT hU
      have hlt' : (k : Int) < (n : Int) := by omega
      go_wp2_with (first | (apply upon_fop rfl; (exact fl_fu); (exact q3); intro r4 n4 hr4) | (apply upon_fop rfl; (exact hr); (exact hr4); intro r5 n5 hr5) | (apply upon_fop rfl; (exact hr5); (exact hr4); intro r6 n6 hr6) | (go_at_call 79; refine Calls.mono (HST.out _ k (by repeat (first | assumption | exact Ext.refl _ | apply Ext.drewN | apply Ext.drew | apply Ext.alloc | (refine Ext.trans ?_ (by assumption)) | (refine Ext.set ?_ (by dsimp only; omega) _))) (by omega)) ?_; rintro e w2 ⟨r7, rfl, hr7, n7, rfl⟩) | (apply upon_fop rfl; (exact hr7); (exact hr6); intro r8 n8 hr8; rw [← HU.out] at hr8) | (at_builtin; refine wpList_append_own _ rfl _ _ 44 rfl w1.heap.size 23 i0 (.float .f32 0) 1 4 Try.underlying44 hi hz0 hz1 hz2 rfl (by decide) _ _ _ rfl (World.ownsRow.alloc (w := wr.drewN _) hown _) ⟨wr.heap.size, 0, none⟩ 1 1 [.float .f32 r8] rfl rfl ?_ ?_ ?_ ?_ ?_ ?_))
      all_goals first
        | exact one_new (w := wr.drewN _)
        | (intro u hu; simp at hu; subst hu; rfl)
        | (unfold maxLen; omega)
        | omega
        | (simp; omega)
        | (intro v' w4 hown' hgrow _
           have hl' : xs.length = k := by have := hown.1; omega
           have hx' : Ext w1 w4 := grown_ext (Ext.alloc (Ext.drewN hx _) _) (World.ownsRow.alloc (w := wr.drewN _) hown _) hgrow
           have HXX := Lib.hid (row_step hl' HX.out hr8)
           clear hown hgrow hx
           go_wp2_with (first | (apply upon_fop rfl; (exact hr7); (exact hr7); intro r9 n9 hr9) | (apply upon_fop rfl; (exact fl_fu); (exact hr9); intro r10 n10 hr10) | (apply upon_fop rfl; (exact hr6); (exact hr10); intro r11 n11 hr11; rw [← HT.out] at hr11))
           exact ⟨⟨k + 1, r11, _, by omega, by go_num, rfl, hr11, by exact hown', HXX.out, (by repeat (first | assumption | exact Ext.refl _ | apply Ext.drewN | apply Ext.drew | apply Ext.alloc | (refine Ext.trans ?_ (by assumption)) | (refine Ext.set ?_ (by dsimp only; omega) _)))⟩, by simp [intOf]; omega⟩)
    · have hkn : k = n := by omega
      subst hkn
      have ho4 : OwF wr w1.heap.size _ k (fech L S D) := ⟨xs, hown, HX.out⟩
      obtain ⟨A4, c4, rfl, ho5⟩ := ho4.owl
      go_wp2_with (go_at_call 80; refine Calls.mono (c_l02List ho5.rd hn) ?_; rintro e w5 ⟨rfl, n3, rfl⟩)
      go_ret2
      exact retL_of (w1 := wr) hxw (ho5.more (by omega) (Nat.le_refl _)) (by repeat (first | assumption | exact Ext.refl _ | apply Ext.drewN | apply Ext.drew | apply Ext.alloc | (refine Ext.trans ?_ (by assumption)) | (refine Ext.set ?_ (by dsimp only; omega) _)))
set_option maxRecDepth 20000 in
set_option maxHeartbeats 4000000 in
theorem c_impl_StraightEchoes {w : World} {n s d : Nat} {A : Option Addr} {L : List Ly} {S D : Option Nat} (h : RdL w A n L) (hn : n ≤ 1048576) (fs : Fl .f32 s S) (fd : Fl .f32 d D) :
    Calls Try.prog 32 #[.agg #[.slice A n n, .float .f32 s, .float .f32 d]] w fun e w' => RetL w e w' (okE L S D) (lst (fech L S D) L.length) := by
  have hbox : GpAt (w.alloc (.cells #[.slice A n n, .float .f32 s, .float .f32 d] 31)) w.heap.size A n n s d := GpAt.blk (t := 31) (by repeat (first | (refine al_at ?_ ?_ <;> first | rfl | (simp only [al_size] <;> omega)) | apply al_old))
  have hl := h.len
  unfold okE
  cases hV : fvalid L S D
  · go_enter Try.func32, Try.ntmps32
    go_wp2_with (go_at_call 77; refine Calls.mono (c_ValidGround (h.ext (by repeat (first | assumption | exact Ext.refl _ | apply Ext.drewN | apply Ext.drew | apply Ext.alloc | (refine Ext.trans ?_ (by assumption)) | (refine Ext.set ?_ (by dsimp only; omega) _)))) fs fd) ?_; rw [hV]; rintro e w1 ⟨rfl, hx1⟩)
    go_ret2
    exact retL_no rfl (by repeat (first | assumption | exact Ext.refl _ | apply Ext.drewN | apply Ext.drew | apply Ext.alloc | (refine Ext.trans ?_ (by assumption)) | (refine Ext.set ?_ (by dsimp only; omega) _)))
  rw [hl, Bool.true_and]
  have hst : ∀ (W : World) (k : Nat), Ext w W → k < n → Calls Try.prog 81 #[.agg #[.slice A n n, .float .f32 s, .float .f32 d], .int .i64 (k : Int)] W fun e w' => ∃ r, e = .returned (.tuple #[.float .f32 r, .bool (ffin .f32 (fstraight L S D k))]) ∧ Fl .f32 r (numX (fstraight L S D k)) ∧ Ext W w' := by
    intro W k hx hk
    have h2 := c_impl_ReflectStraight (k : Int) (h.ext hx) hn fs fd
    have hb : inBou (k : Int) n = true := by unfold inBou; simp; omega
    rw [hV, hb] at h2
    simpa only [saysOk, saysX, Bool.true_and, Bool.and_self, if_true, Int.toNat_natCast] using h2
  have hmk := fun W => run_make_row' (P := Try.prog) 44 23 (.float .f32 0) 4 Try.underlying44 info_f32 rfl .i64 .i64 n (by omega) (by omega) W
  have HST := Lib.hid hst
  clear hst hl
  go_enter Try.func32, Try.ntmps32
  go_wp2_with (go_at_call 77; refine Calls.mono (c_ValidGround (h.ext (by repeat (first | assumption | exact Ext.refl _ | apply Ext.drewN | apply Ext.drew | apply Ext.alloc | (refine Ext.trans ?_ (by assumption)) | (refine Ext.set ?_ (by dsimp only; omega) _)))) fs fd) ?_; rw [hV]; rintro e w1 ⟨rfl, hx1⟩; obtain ⟨p0, p1, p2, _⟩ := hbox.ext (w' := w1) (by repeat (first | assumption | exact Ext.refl _ | apply Ext.drewN | apply Ext.drew | apply Ext.alloc | (refine Ext.trans ?_ (by assumption)) | (refine Ext.set ?_ (by dsimp only; omega) _))))
  have hX : Ext w w1 := (by repeat (first | assumption | exact Ext.refl _ | apply Ext.drewN | apply Ext.drew | apply Ext.alloc | (refine Ext.trans ?_ (by assumption)) | (refine Ext.set ?_ (by dsimp only; omega) _)))
  have hXb : Ext (w.alloc (.cells #[.slice A n n, .float .f32 s, .float .f32 d] 31)) w1 := (by repeat (first | assumption | exact Ext.refl _ | apply Ext.drewN | apply Ext.drew | apply Ext.alloc | (refine Ext.trans ?_ (by assumption)) | (refine Ext.set ?_ (by dsimp only; omega) _)))
  have z1 := hX.size
  go_loopw [5, 21] (fun tt i wr => ∃ (k r : Nat) (cs : Array Value), k ≤ n ∧ i = .int .i64 k ∧ tt = .float .f32 r ∧ Fl .f32 r (ete L S D k) ∧ wr.heap[w1.heap.size]? = some (.cells cs 23 (0, 0)) ∧ cs.size = n ∧ (∀ j, j < k → ∃ r, cs[j]? = some (.float .f32 r) ∧ Fl .f32 r (fech L S D j)) ∧ Ext w1 wr) (fun _ i _ => n - (intOf i).toNat)
  case atStart => exact ⟨0, _, _, Nat.zero_le _, rfl, rfl, fl_fu, heap_alloc_new w1 _, size_madeCells _ _, fun j hj => absurd hj (Nat.not_lt_zero _), (by repeat (first | assumption | exact Ext.refl _ | apply Ext.drewN | apply Ext.drew | apply Ext.alloc | (refine Ext.trans ?_ (by assumption)) | (refine Ext.set ?_ (by dsimp only; omega) _)))⟩
  case round =>
    obtain ⟨k, r, cs, hk, rfl, rfl, hr, hg, hsz, hxs, hx⟩ := hrel
    have HX := Lib.hid hxs
    have HG := Lib.hid hg
    have HS := Lib.hid hsz
    clear hxs hg hsz
    obtain ⟨p0, p1, p2, _⟩ := hbox.ext (w' := wr) (hXb.trans hx)
    by_cases hlt : k < n
    · obtain ⟨b', off, r0, r1, r2, r3, rfl, hb', hy⟩ := (h.ext (hX.trans hx)).cell hlt
      have hc0 := hy.c0
      have hc1 := hy.c1
      have hc2 := hy.c2
      have hc3 := hy.c3
      have q3 := hy.f3
      have hT : ete L S D (k + 1) = fop .mul .f32 (fop .mul .f32 (fop .mul .f32 (ete L S D k) (fop .sub .f32 fu (L.getD k default).l)) (fop .sub .f32 fu (L.getD k default).l)) (fop .sub .f32 fu (fop .mul .f32 (fstraight L S D k) (fstraight L S D k))) := rfl
      have hU : fech L S D k = fop .mul .f32 (fstraight L S D k) (fop .mul .f32 (fop .mul .f32 (ete L S D k) (fop .sub .f32 fu (L.getD k default).l)) (fop .sub .f32 fu (L.getD k default).l)) := rfl
      have HT := Lib.hid hT
      have HU := Lib.hid hU
      clear hT hU
      have hlt' : (k : Int) < (n : Int) := by omega
      cases hF : ffin .f32 (fstraight L S D k)
      · have hend : finL (lst (fech L S D) n) = false := finL_not hlt (by unfold fech; exact mul_notfin hF)
        have HE := Lib.hid hend
        clear hend
        go_wp2_with (go_at_call 81; refine Calls.mono (HST.out _ k (by repeat (first | assumption | exact Ext.refl _ | apply Ext.drewN | apply Ext.drew | apply Ext.alloc | (refine Ext.trans ?_ (by assumption)) | (refine Ext.set ?_ (by dsimp only; omega) _))) hlt) ?_; rw [hF]; rintro e w2 ⟨r7, rfl, hr7, hx7⟩)
        go_ret2
        exact retL_no HE.out (by repeat (first | assumption | exact Ext.refl _ | apply Ext.drewN | apply Ext.drew | apply Ext.alloc | (refine Ext.trans ?_ (by assumption)) | (refine Ext.set ?_ (by dsimp only; omega) _)))
      · have hN : numX (fstraight L S D k) = fstraight L S D k := numX_fin hF
        have HN := Lib.hid hN
        clear hN
        go_wp2_with (first | (go_at_call 81; refine Calls.mono (HST.out _ k (by repeat (first | assumption | exact Ext.refl _ | apply Ext.drewN | apply Ext.drew | apply Ext.alloc | (refine Ext.trans ?_ (by assumption)) | (refine Ext.set ?_ (by dsimp only; omega) _))) hlt) ?_; rw [hF]; rintro e w2 ⟨r7, rfl, hr7, hx7⟩; rw [HN.out] at hr7; obtain ⟨e0, e1, e2, e3, y0, y1, y2, y3⟩ := cells4 (hx7.blk (g := wr.heap.size) (o := .cells #[.float .f32 r0, .float .f32 r1, .float .f32 r2, .float .f32 r3] 85 (0, 0)) (by repeat (first | (refine al_at ?_ ?_ <;> first | rfl | (simp only [al_size] <;> omega)) | apply al_old))); obtain ⟨p0, p1, p2, _⟩ := hbox.ext (w' := w2) (by repeat (first | assumption | exact Ext.refl _ | apply Ext.drewN | apply Ext.drew | apply Ext.alloc | (refine Ext.trans ?_ (by assumption)) | (refine Ext.set ?_ (by dsimp only; omega) _))); obtain ⟨u0, m0, z0⟩ := own_cell (hx7.blk (al_old HG.out)) HS.out hlt) | (apply upon_fop rfl; (exact fl_fu); (exact q3); intro r4 n4 hr4) | (go_at_call 82; refine Calls.mono (c_mulNumbers hr hr4 _) ?_; rintro e w3 ⟨r5, rfl, hr5, n5, rfl⟩) | (go_at_call 82; refine Calls.mono (c_mulNumbers hr5 hr4 _) ?_; rintro e w3 ⟨r6, rfl, hr6, n6, rfl⟩) | (go_at_call 82; refine Calls.mono (c_mulNumbers hr7 hr6 _) ?_; rw [← HU.out]; rintro e w3 ⟨r8, rfl, hr8, n8, rfl⟩) | (go_at_call 82; refine Calls.mono (c_mulNumbers hr7 hr7 _) ?_; rintro e w3 ⟨r9, rfl, hr9, n9, rfl⟩) | (apply upon_fop rfl; (exact fl_fu); (exact hr9); intro r10 n10 hr10) | (go_at_call 82; refine Calls.mono (c_mulNumbers hr6 hr10 _) ?_; rw [← HT.out]; rintro e w3 ⟨r11, rfl, hr11, n11, rfl⟩))
        exact ⟨⟨k + 1, r11, cs.setIfInBounds k (.float .f32 r8), by omega, by go_num, rfl, hr11, by exact blk_set1 (w := World.drewN w2 _) (hx7.blk (al_old HG.out)) k _, by rw [Array.size_setIfInBounds]; exact HS.out, pre_setF (F := fech L S D) (by have := HS.out; omega) HX.out hr8, (by repeat (first | assumption | exact Ext.refl _ | apply Ext.drewN | apply Ext.drew | apply Ext.alloc | (refine Ext.trans ?_ (by assumption)) | (refine Ext.set ?_ (by dsimp only; omega) _)))⟩, by simp [intOf]; omega⟩
    · have hkn : k = n := by omega
      subst hkn
      have ho5 := own_lst HG.out HS.out HX.out
      go_wp2_with (go_at_call 83; refine Calls.mono (c_finiteList ho5.rd hn) ?_; rintro e w5 ⟨rfl, n3, rfl⟩)
      go_ret2
      exact retL_of (w1 := wr) (hX.trans hx) (ho5.more z1 (Nat.le_refl _)) (by repeat (first | assumption | exact Ext.refl _ | apply Ext.drewN | apply Ext.drew | apply Ext.alloc | (refine Ext.trans ?_ (by assumption)) | (refine Ext.set ?_ (by dsimp only; omega) _)))
theorem both_StraightEchoes {n s d : Nat} {L : List Ly} {S D : Option Nat} (hl : L.length = n) (hn : n ≤ 1048576) (fs : Fl .f32 s S) (fd : Fl .f32 d D) :
    ∃ ok Q q, q ≤ 1048576 ∧ (∀ (W : World) (A : Option Addr) (c : Nat), RdL W A n L → Calls Try.prog 31 #[.agg #[.slice A n c, .float .f32 s, .float .f32 d]] W fun e w' => RetQ W e w' ok q Q) ∧
      (∀ (W : World) (A : Option Addr), RdL W A n L → Calls Try.prog 32 #[.agg #[.slice A n n, .float .f32 s, .float .f32 d]] W fun e w' => RetQ W e w' ok q Q) :=
  ⟨okE L S D, outL (okE L S D) (lst (fech L S D) L.length), (outL (okE L S D) (lst (fech L S D) L.length)).length, Nat.le_trans (outL_len _ _) (by rw [lst_len]; omega),
    fun _ _ _ h => Calls.mono (c_spec_StraightEchoes h hn fs fd) (fun _ _ hr => hr.q), fun _ _ h => Calls.mono (c_impl_StraightEchoes h hn fs fd) (fun _ _ hr => hr.q)⟩

end Go.Proofs.Ytkoiimjpalhgbab
