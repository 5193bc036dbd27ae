/- Contracts: traces without a frequency, on both sides. Condition: the list is read. -/
import Derived.Test.YtcjddnkebdjhoaaFg
namespace Go.Proofs.Ytcjddnkebdjhoaa
open Go.RowKit Ieee

theorem RetL.from {w W : World} {e : Ending} {w2 : World} {ok : Bool} {M : List (Option Nat)} (h : RetL W e w2 ok M) (hx : Ext w W) : RetL w e w2 ok M := by
  obtain ⟨A, n, c, he, ho, hx2⟩ := h
  exact ⟨A, n, c, he, ho.more hx.size (Nat.le_refl _), hx.trans hx2⟩
def k_two : Option Nat := fl .f32 1073741824
theorem fl_two : Fl .f32 1073741824 k_two := Fl.of32 (by decide)
/-- What NotchTrace takes of the sine. -/
def okNo (n : Nat) (P : Option Nat) : Bool := tlen n && ffin .f32 P
theorem notch_sine {p : Nat} {P : Option Nat} (fp : Fl .f32 p P) : ∃ R, ∀ b, Fl .f32 b (fop .add .f32 P fq4) → SineCase b (fop .add .f32 P fq4) R := sine_all _ (fop_is fp fl_fq4)
set_option maxRecDepth 20000 in
set_option maxHeartbeats 4000000 in
theorem c_spec_NotchTrace {w : World} {B n c : Nat} {A : Option Addr} {L : List (Option Nat)} (h : RdF w B A n L) (hB : B ≤ w.heap.size) (hn : n ≤ 1048576) {p : Nat} {P R : Option Nat} (fp : Fl .f32 p P) (hS : ∀ b, Fl .f32 b (fop .add .f32 P fq4) → SineCase b (fop .add .f32 P fq4) R) :
    Calls Try.prog 21 #[.slice A n c, .float .f32 p] w fun e w' => RetL w e w' (okNo n P) (lst (fnotch L (fop .mul .f32 k_two R)) n) := by
  unfold okNo
  cases hV : tlen n
  · go_enter Try.func21, Try.ntmps21
    go_wp2_with (go_at_call 37; refine Calls.mono (c_l03Is _ _ _ _) ?_; rw [hV]; rintro e w1 ⟨rfl, rfl⟩)
    go_ret2
    exact retL_no rfl (by repeat (first | assumption | exact Ext.refl _ | apply Ext.drewN | apply Ext.drew | apply Ext.alloc | (refine Ext.trans ?_ (by assumption)) | (refine Ext.set ?_ (by dsimp only; omega) _)))
  rw [Bool.true_and]
  cases hF : ffin .f32 P
  · go_enter Try.func21, Try.ntmps21
    go_wp2_with (first | (go_at_call 37; refine Calls.mono (c_l03Is _ _ _ _) ?_; rw [hV]; rintro e w1 ⟨rfl, rfl⟩) | (go_at_call 47; refine Calls.mono (c_l01Finite fp _) ?_; rw [hF]; rintro e w' ⟨rfl, n, rfl⟩))
    go_ret2
    exact retL_no rfl (by repeat (first | assumption | exact Ext.refl _ | apply Ext.drewN | apply Ext.drew | apply Ext.alloc | (refine Ext.trans ?_ (by assumption)) | (refine Ext.set ?_ (by dsimp only; omega) _)))
  have hl := Lib.hid h.len
  obtain ⟨i0, hi, hz0, hz1, hz2⟩ := info_parts info_f32
  have HSS := Lib.hid hS
  clear hS
  obtain ⟨Q, hQ⟩ : ∃ Q, fop .mul .f32 k_two R = Q := ⟨_, rfl⟩
  rw [hQ]
  have HQ := Lib.hid hQ
  clear hQ
  go_enter Try.func21, Try.ntmps21
  go_wp2_with (first | (go_at_call 37; refine Calls.mono (c_l03Is _ _ _ _) ?_; rw [hV]; rintro e w1 ⟨rfl, rfl⟩) | (go_at_call 47; refine Calls.mono (c_l01Finite fp _) ?_; rw [hF]; rintro e w' ⟨rfl, nq, rfl⟩) | (apply upon_fop rfl; (exact fp); (exact fl_fq4); intro r1 n1 hr1) | (go_at_call 48; refine Calls.mono (c_spec_l01Sine hr1 (HSS.out _ hr1) _) ?_; rintro e w2 ⟨r2, rfl, hr2, n2, rfl⟩) | (apply upon_fop rfl; (exact fl_two); (exact hr2); intro r3 n3 hr3; rw [HQ.out] at hr3))
  clear hr1 hr2
  go_loopw [7, 24] (fun v y wr => ∃ (k : Nat) (xs : List Value), k ≤ n ∧ y = .int .i64 k ∧ wr.ownsRow w.heap.size 29 1 v k xs ∧ (∀ j, j < k → ∃ r, xs[j]? = some (.float .f32 r) ∧ Fl .f32 r ((fnotch L Q) j)) ∧ Ext w wr) (fun _ y _ => n - (intOf y).toNat)
  case atStart => exact ⟨0, [], Nat.zero_le _, rfl, World.ownsRow_made _ _ 0 (Nat.le_refl _) (Nat.zero_le _) rfl, fun j hj => absurd hj (Nat.not_lt_zero _), (by repeat (first | assumption | exact Ext.refl _ | apply Ext.drewN | apply Ext.drew | apply Ext.alloc | (refine Ext.trans ?_ (by assumption)) | (refine Ext.set ?_ (by dsimp only; omega) _)))⟩
  case round =>
    obtain ⟨k, xs, hk, rfl, hown, hxs, hx⟩ := hrel
    have HX : Hid (∀ j, j < k → ∃ r, xs[j]? = some (.float .f32 r) ∧ Fl .f32 r (fnotch L Q j)) := Lib.hid hxs
    clear hxs
    by_cases hlt : k < n
    · have hlt' : (k : Int) < (n : Int) := by omega
      have hO3 := h.below (hx.mono hB)
      obtain ⟨b1, o1, t1, rfl, hb1, hc1, ht1⟩ := hO3.cell hlt
      have hw1 : IntKind.i64.wrap ((k : Int) - 1) = (k : Int) - 1 := IntWalk.i64_in _ (by omega)
      have hw2 : IntKind.i64.wrap ((k : Int) - 2) = (k : Int) - 2 := IntWalk.i64_in _ (by omega)
      have HT : Hid (fnotch L Q k = fop .add .f32 (fop .sub .f32 (L.getD k none) (fop .mul .f32 Q (fatI L ((k : Int) - 1)))) (fatI L ((k : Int) - 2))) := Lib.hid rfl
      go_wp2_with (fail)
      refine wp_region_loose1 (v := ?v0) 16 (by kernel_rfl) (by kernel_rfl) (fun _ _ _ h => h) (Or.inl ⟨by rfl, ?hy0⟩) ?rest0
      case hy0 => intro w; go_simp; first | done | with_reducible rfl
      try simp only [Act.put, List.setIfInBounds_toArray, List.set_cons_zero, List.set_cons_succ]
      simp only [List.take_succ_cons, List.take_zero, List.drop_succ_cons, List.drop_zero]
      refine la_start ?_
      refine la_fix _ (by rfl) (by intros; go_simp; rfl) ?_
      try simp only [Act.put, List.setIfInBounds_toArray, List.set_cons_zero, List.set_cons_succ]
      refine la_fix _ (by rfl) (by intros; go_simp; rfl) ?_
      try simp only [Act.put, List.setIfInBounds_toArray, List.set_cons_zero, List.set_cons_succ]
      refine la_fix _ (by rfl) (by intros; go_simp; rfl) ?_
      try simp only [Act.put, List.setIfInBounds_toArray, List.set_cons_zero, List.set_cons_succ]
      refine la_fix _ (by rfl) (by intros; go_simp; rfl) ?_
      try simp only [Act.put, List.setIfInBounds_toArray, List.set_cons_zero, List.set_cons_succ]
      refine la_fix _ (by rfl) (by intros; go_simp; rfl) ?_
      try simp only [Act.put, List.setIfInBounds_toArray, List.set_cons_zero, List.set_cons_succ]
      refine la_fix _ (by rfl) (by intros; go_simp; rfl) ?_
      try simp only [Act.put, List.setIfInBounds_toArray, List.set_cons_zero, List.set_cons_succ]
      refine la_fix _ (by rfl) (by intros; go_simp; rfl) ?_
      try simp only [Act.put, List.setIfInBounds_toArray, List.set_cons_zero, List.set_cons_succ]
      refine la_fix _ (by rfl) (by intros; go_simp; rfl) ?_
      try simp only [Act.put, List.setIfInBounds_toArray, List.set_cons_zero, List.set_cons_succ]
      refine la_callF (k := .f32) (by rfl) (by intros; refine ⟨_, fun q => (by go_simp; first | rfl | exact ⟨rfl, rfl⟩), fun q => ?_⟩; exact c_l05At (hO3.drewN _)) ?_
      try simp only [Act.put, List.setIfInBounds_toArray, List.set_cons_zero, List.set_cons_succ]
      refine la_fop (op := .mul) (by rfl) (by rfl) (by intros; refine ⟨_, _, ?_, ?_, fun q => (by go_simp; rfl)⟩ <;> (first | assumption | exact fl_fu | exact fl_fz)) ?_
      try simp only [Act.put, List.setIfInBounds_toArray, List.set_cons_zero, List.set_cons_succ]
      refine la_fop (op := .sub) (by rfl) (by rfl) (by intros; refine ⟨_, _, ?_, ?_, fun q => (by go_simp; rfl)⟩ <;> (first | assumption | exact fl_fu | exact fl_fz)) ?_
      try simp only [Act.put, List.setIfInBounds_toArray, List.set_cons_zero, List.set_cons_succ]
      refine la_fix _ (by rfl) (by intros; go_simp; rfl) ?_
      try simp only [Act.put, List.setIfInBounds_toArray, List.set_cons_zero, List.set_cons_succ]
      refine la_fix _ (by rfl) (by intros; go_simp; rfl) ?_
      try simp only [Act.put, List.setIfInBounds_toArray, List.set_cons_zero, List.set_cons_succ]
      refine la_fix _ (by rfl) (by intros; go_simp; rfl) ?_
      try simp only [Act.put, List.setIfInBounds_toArray, List.set_cons_zero, List.set_cons_succ]
      refine la_callF (k := .f32) (by rfl) (by intros; refine ⟨_, fun q => (by go_simp; first | rfl | exact ⟨rfl, rfl⟩), fun q => ?_⟩; exact c_l05At (hO3.drewN _)) ?_
      try simp only [Act.put, List.setIfInBounds_toArray, List.set_cons_zero, List.set_cons_succ]
      refine la_fop (op := .add) (by rfl) (by rfl) (by intros; refine ⟨_, _, ?_, ?_, fun q => (by go_simp; rfl)⟩ <;> (first | assumption | exact fl_fu | exact fl_fz)) ?_
      try simp only [Act.put, List.setIfInBounds_toArray, List.set_cons_zero, List.set_cons_succ]
      refine la_end ?_
      intro r4 hr4 r5 hr5 r6 hr6 r7 hr7 r8 hr8 q
      rw [← HT.out] at hr8
      go_wp2_with (at_builtin; refine wpList_append_own _ rfl _ _ 22 rfl w.heap.size 29 i0 (.float .f32 0) 1 4 Try.underlying22 hi hz0 hz1 hz2 rfl (by decide) _ _ _ rfl (World.ownsRow.alloc (w := wr.drewN q) hown _) ⟨wr.heap.size, 0, none⟩ 1 1 [.float .f32 r8] rfl rfl ?_ ?_ ?_ ?_ ?_ ?_)
      all_goals first
        | exact one_new (w := wr.drewN q)
        | (intro j0 u hj0; have h0 := one_new (w := wr.drewN q) j0 u hj0; have e0 : (⟨(wr.drewN q).heap.size, 0, none⟩ : Addr).add j0 = ⟨wr.heap.size, j0, none⟩ := (by rw [show (wr.drewN q).heap.size = wr.heap.size from rfl]; simp [Addr.add]; first | done | (intros; omega)); rw [e0] at h0; exact h0)
        | rfl
        | (intro u hu; simp at hu; subst hu; rfl)
        | (unfold maxLen; omega)
        | omega
        | (have := hx.size; simp; omega)
        | (intro v' w4 hown' hgrow _
           have hl' : xs.length = k := by have := hown.1; omega
           have hx' : Ext w w4 := grown_ext (Ext.alloc (Ext.drewN hx _) _) (World.ownsRow.alloc (w := wr.drewN q) hown _) hgrow
           have HXX := Lib.hid (row_step hl' HX.out hr8)
           clear hown hgrow hx
           go_wp2_with (fail)
           exact ⟨⟨k + 1, _, by omega, by go_num, hown', HXX.out, hx'⟩, by simp [intOf]; omega⟩)
    · obtain rfl : k = n := by omega
      have ho4 : OwF wr w.heap.size _ k (fnotch L Q) := ⟨xs, hown, HX.out⟩
      obtain ⟨A4, c4, rfl, ho5⟩ := ho4.owl
      go_wp2_with (fail)
      go_ret2
      exact ⟨_, _, _, rfl, ho5, hx⟩
set_option maxRecDepth 20000 in
set_option maxHeartbeats 4000000 in
theorem c_impl_NotchTrace {w : World} {B n c : Nat} {A : Option Addr} {L : List (Option Nat)} (h : RdF w B A n L) (hB : B ≤ w.heap.size) (hn : n ≤ 1048576) {p : Nat} {P R : Option Nat} (fp : Fl .f32 p P) (hS : ∀ b, Fl .f32 b (fop .add .f32 P fq4) → SineCase b (fop .add .f32 P fq4) R) :
    Calls Try.prog 22 #[.slice A n c, .float .f32 p] w fun e w' => RetL w e w' (okNo n P) (lst (fnotch L (fop .mul .f32 k_two R)) n) := by
  unfold okNo
  cases hF : ffin .f32 P
  · rw [Bool.and_false]
    go_enter Try.func22, Try.ntmps22
    go_wp2_with (go_at_call 50; refine Calls.mono (c_impl_IsFinite fp _) ?_; rw [hF]; rintro e w' ⟨rfl, nq, rfl⟩)
    go_ret2
    exact retL_no rfl (by repeat (first | assumption | exact Ext.refl _ | apply Ext.drewN | apply Ext.drew | apply Ext.alloc | (refine Ext.trans ?_ (by assumption)) | (refine Ext.set ?_ (by dsimp only; omega) _)))
  rw [Bool.and_true]
  have HSS := Lib.hid hS
  clear hS
  have cS := fun (W : World) (g q : Nat) (hW : Ext w W) (hg : W.cell? ⟨g, 0, none⟩ = some (.float .f32 q)) (hgl : g < W.heap.size) (fq : Fl .f32 q (fop .mul .f32 k_two R)) => c_shape_notch (w := W) (c := c) (h.below (hW.mono hB)) (Nat.le_trans hB hW.size) hn hg hgl fq
  have CS := Lib.hid cS
  clear cS
  go_enter Try.func22, Try.ntmps22
  go_wp2_with (first | (go_at_call 50; refine Calls.mono (c_impl_IsFinite fp _) ?_; rw [hF]; rintro e w' ⟨rfl, nq, rfl⟩) | (apply upon_fop rfl; (exact fp); (exact fl_fq4); intro r1 n1 hr1) | (go_at_call 52; refine Calls.mono (c_impl_SineTurns hr1 (HSS.out _ hr1) _) ?_; rintro e w2 ⟨r2, rfl, hr2, n2, rfl⟩) | (go_at_call 51; refine Calls.mono (c_mulNumbers fl_two hr2 _) ?_; rintro e w3 ⟨r3, rfl, hr3, n3, rfl⟩; obtain ⟨q1, q2⟩ := new1 w (.float .f32 0) 29 (nq + n1 + n2 + n3)) | (go_at_call 42; go_loud (refine Calls.mono (CS.out _ _ _ (by repeat (first | assumption | exact Ext.refl _ | apply Ext.drewN | apply Ext.drew | apply Ext.alloc | (refine Ext.trans ?_ (by assumption)) | (refine Ext.set ?_ (by dsimp only; omega) _))) (new1_set _ _ _ _ _) (by simp) hr3) ?_); rintro e w5 hret; obtain ⟨A5, n5, c5, rfl, ho, hx5⟩ := RetL.from (w := w) hret (by repeat (first | assumption | exact Ext.refl _ | apply Ext.drewN | apply Ext.drew | apply Ext.alloc | (refine Ext.trans ?_ (by assumption)) | (refine Ext.set ?_ (by dsimp only; omega) _)))))
  go_ret2
  exact ⟨_, _, _, rfl, ho, hx5⟩
theorem both_NotchTrace {n0 : Nat} {L0 : List (Option Nat)} (_hl0 : L0.length = n0) (hn0 : n0 ≤ 1048576) {p1 : Nat} {P1 : Option Nat} (fp1 : Fl .f32 p1 P1) :
    ∃ ok Q q, q ≤ 1048576 ∧ (∀ W : World, ∀ (B0 : Nat) (A0 : Option Addr) (c0 : Nat), RdF W B0 A0 n0 L0 → B0 ≤ W.heap.size → Calls Try.prog 21 #[.slice A0 n0 c0, .float .f32 p1] W fun e w' => RetQ W e w' ok q Q) ∧
      (∀ W : World, ∀ (B0 : Nat) (A0 : Option Addr) (c0 : Nat), RdF W B0 A0 n0 L0 → B0 ≤ W.heap.size → Calls Try.prog 22 #[.slice A0 n0 c0, .float .f32 p1] W fun e w' => RetQ W e w' ok q Q) :=
  by
  obtain ⟨R, hS⟩ := notch_sine fp1
  exact ⟨okNo n0 P1, outL (okNo n0 P1) (lst (fnotch L0 (fop .mul .f32 k_two R)) n0), (outL (okNo n0 P1) (lst (fnotch L0 (fop .mul .f32 k_two R)) n0)).length, Nat.le_trans (outL_len _ _) (by rw [lst_len]; omega),
    fun W _ _ _ h0 hB0 => Calls.mono (c_spec_NotchTrace (w := W) h0 hB0 hn0 fp1 hS) (fun _ _ hr => hr.q), fun W _ _ _ h0 hB0 => Calls.mono (c_impl_NotchTrace (w := W) h0 hB0 hn0 fp1 hS) (fun _ _ hr => hr.q)⟩

end Go.Proofs.Ytcjddnkebdjhoaa
